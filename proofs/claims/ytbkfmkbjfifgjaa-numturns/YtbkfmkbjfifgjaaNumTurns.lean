/-
  NumTurns: a product that is turned round is the same; so is a cross of both sides turned, with the other sign; a common divisor divides both. For every four numbers of 64 bits.
  Conditions: none beyond the given statement's own.
-/
import Derived.Test.YtbkfmkbjfifgjaaNumWalks3
import Derived.Test.YtbkfmkbjfifgjaaLawFrame
namespace Go.Proofs.Ytbkfmkbjfifgjaa.numTurns
open Go.ChangeShapes Go.WideShapes Go.ChangeAt Go.RowKit
set_option linter.unusedVariables false

theorem mul_turned (a b : Int) (ha : I64 a) (hb : I64 b) (w : World) :
    Calls Try.prog 16 #[.int .i64 b, .int .i64 a] w fun e w' => e = .returned (.tuple #[.int .i64 (fit (a * b)), .bool (fitB (a * b))]) ∧ Below w.heap.size w w' := by
  rw [Int.mul_comm a b]; exact mul_any b a hb ha w
theorem cmp3_turn (x y : Int) : cmp3 y x = - cmp3 x y := by
  unfold cmp3; (repeat' split) <;> omega
theorem cmp3_bd (x y : Int) : -1 ≤ cmp3 x y ∧ cmp3 x y ≤ 1 := by
  unfold cmp3; (repeat' split) <;> omega
theorem cross_turned (a b c d : Int) (ha : I64 a) (hb : I64 b) (hc : I64 c) (hd : I64 d) (w : World) :
    Calls Try.prog 27 #[.int .i64 c, .int .i64 d, .int .i64 a, .int .i64 b] w fun e w' => e = .returned (.int .i64 (- cmp3 (a * d) (c * b))) ∧ Below w.heap.size w w' := by
  rw [← cmp3_turn]; exact cross_any c d a b hc hd ha hb w
theorem gcd_yes {g : Int} (a b : Int) (ha : I64 a) (hb : I64 b) (h : Hid (((a.gcd b : Nat) : Int) = g ∧ I64 g)) (w : World) :
    Calls Try.prog 25 #[.int .i64 a, .int .i64 b] w fun e w' => e = .returned (.tuple #[.int .i64 g, .bool true]) ∧ Below w.heap.size w w' := by
  have k := gcd_any a b ha hb w
  rw [h.out.1, (fit_yes h.out.2).1, (fit_yes h.out.2).2] at k
  exact k
theorem gcd_no (a b : Int) (ha : I64 a) (hb : I64 b) (h : ¬ I64 (a.gcd b)) (w : World) :
    Calls Try.prog 25 #[.int .i64 a, .int .i64 b] w fun e w' => e = .returned (.tuple #[.int .i64 0, .bool false]) ∧ Below w.heap.size w w' := by
  have k := gcd_any a b ha hb w
  rw [(fit_no h).1, (fit_no h).2] at k
  exact k

/-- Two pairs lie in two blocks, the first of number n. -/
structure Two (n : Nat) (a b c d : Int) (w : World) : Prop where
  mk ::
  c0 : w.cell? ⟨n, 0, none⟩ = some (.int .i64 a)
  c1 : w.cell? ⟨n, 1, none⟩ = some (.int .i64 b)
  c2 : w.cell? ⟨n + 1, 0, none⟩ = some (.int .i64 c)
  c3 : w.cell? ⟨n + 1, 1, none⟩ = some (.int .i64 d)
  size : n + 1 < w.heap.size
theorem Two.below {n : Nat} {a b c d : Int} {w w' : World} (h : Two n a b c d w) (hb : Below w.heap.size w w') : Two n a b c d w' := by
  have hs := h.size
  exact ⟨by rw [hb.cell (by show n < _; omega)]; exact h.c0, by rw [hb.cell (by show n < _; omega)]; exact h.c1, by rw [hb.cell (by show n + 1 < _; omega)]; exact h.c2, by rw [hb.cell (by show n + 1 < _; omega)]; exact h.c3, Nat.lt_of_lt_of_le hs hb.size⟩
theorem two_new (w : World) (a b c d : Int) : Two w.heap.size a b c d ((w.alloc (.cells #[.int .i64 a, .int .i64 b] 39)).alloc (.cells #[.int .i64 c, .int .i64 d] 39)) :=
  ⟨by simp [go_sem], by simp [go_sem], by simp [go_sem], by simp [go_sem], by simp⟩
theorem two_below (w : World) (a b c d : Int) : Below w.heap.size w ((w.alloc (.cells #[.int .i64 a, .int .i64 b] 39)).alloc (.cells #[.int .i64 c, .int .i64 d] 39)) :=
  ((Below.refl _ _).alloc (Nat.le_refl _) _).alloc (by simp) _

theorem Two.drew {n : Nat} {a b c d : Int} {w : World} (h : Two n a b c d w) : Two n a b c d w.drew := ⟨h.c0, h.c1, h.c2, h.c3, h.size⟩
theorem Two.out {n : Nat} {a b c d : Int} {w : World} (h : Two n a b c d w) : w.cell? ⟨n, 0, none⟩ = some (.int .i64 a) ∧ w.cell? ⟨n, 1, none⟩ = some (.int .i64 b) ∧ w.cell? ⟨n + 1, 0, none⟩ = some (.int .i64 c) ∧ w.cell? ⟨n + 1, 1, none⟩ = some (.int .i64 d) := ⟨h.c0, h.c1, h.c2, h.c3⟩

theorem gcd_big {a b : Int} (ha : I64 a) (hb : I64 b) (h : ¬ I64 (a.gcd b)) : a = -9223372036854775808 ∨ b = -9223372036854775808 := by
  unfold I64 at *
  by_cases h0 : a = 0
  · subst h0
    rw [Int.zero_gcd] at h
    right; omega
  · have h1 : a.gcd b ≤ a.natAbs := Nat.gcd_le_left _ (by omega)
    left; omega
theorem gcd_rem {a b : Int} (h0 : ((a.gcd b : Nat) : Int) ≠ 0) : a.tmod (a.gcd b) = 0 ∧ b.tmod (a.gcd b) = 0 :=
  ⟨tmod_dvd.2 (Int.gcd_dvd_left a b), tmod_dvd.2 (Int.gcd_dvd_right a b)⟩

set_option maxHeartbeats 2000000 in
theorem walkA (a b c d : Int) (ha : I64 a) (hb : I64 b) (hc : I64 c) (hd : I64 d) (w : World) (g : Int) (hg : Hid (((a.gcd b : Nat) : Int) = g ∧ I64 g)) (hp : 0 < g) (hne : ¬ g = 0) (m1 : a.tmod g = 0) (m2 : b.tmod g = 0) :
    Calls Try.prog 8 #[.agg #[.int .i64 a, .int .i64 b], .agg #[.int .i64 c, .int .i64 d]] w fun e w' => e = .returned (.bool true) ∧ Below w.heap.size w w' := by
  have hwr : IntKind.i64.wrap (cmp3 (a * d) (c * b)) = cmp3 (a * d) (c * b) := by
    obtain ⟨cl, ch⟩ := cmp3_bd (a * d) (c * b)
    exact IntWalk.i64_in _ (by omega)
  go_enter Try.func8, Try.ntmps8
  go_wp2_with fail
  with_reducible refine (mul_any a b ha hb _).mono ?_
  rintro e w1 ⟨rfl, b1⟩
  have T1 := (two_new w a b c d).below b1
  have B1 := on (two_below w a b c d) b1
  obtain ⟨q0, q1, q2, q3, q4⟩ := T1
  go_wp2_with fail
  with_reducible refine (mul_turned a b ha hb _).mono ?_
  rintro e w2 ⟨rfl, b2⟩
  have T2 := (Two.mk q0 q1 q2 q3 q4).below b2
  have B2 := on B1 b2
  clear q0 q1 q2 q3 q4 b1 b2 B1
  obtain ⟨q0, q1, q2, q3, q4⟩ := T2
  go_wp2_with fail
  with_reducible refine (gcd_yes a b ha hb hg _).mono ?_
  rintro e w3 ⟨rfl, b3⟩
  have T3 := (Two.mk q0 q1 q2 q3 q4).below b3
  have B3 := on B2 b3
  clear q0 q1 q2 q3 q4 b3 B2
  obtain ⟨q0, q1, q2, q3, q4⟩ := T3
  go_wp2
  go_region_held3 (fun w' => w'.cell? ⟨w.heap.size, 0, none⟩ = some (.int .i64 a) ∧ w'.cell? ⟨w.heap.size, 1, none⟩ = some (.int .i64 b) ∧ w'.cell? ⟨w.heap.size + 1, 0, none⟩ = some (.int .i64 c) ∧ w'.cell? ⟨w.heap.size + 1, 1, none⟩ = some (.int .i64 d)) (first | exact ⟨q0, q1, q2, q3⟩ | exact (Two.below (Two.drew (Two.mk q0 q1 q2 q3 q4)) hb5).out | exact (Two.below (Two.below (Two.drew (Two.mk q0 q1 q2 q3 q4)) hb5) hb6).out)
    (first
      | (go_at_call_of 27 (Value.int IntKind.i64 a); (with_reducible refine (cross_any a b c d ha hb hc hd _).mono ?_); rintro e w5 ⟨rfl, hb5⟩)
      | (go_at_call 27; (with_reducible refine (cross_turned a b c d ha hb hc hd _).mono ?_); rintro e w6 ⟨rfl, hb6⟩))
  have T6 := Two.below (Two.below (Two.drew (Two.mk q0 q1 q2 q3 q4)) hb5) hb6
  have B6 := on (on B3.drew hb5) hb6
  clear q0 q1 q2 q3 q4 B3 hb5 hb6
  obtain ⟨q0, q1, q2, q3, q4⟩ := T6
  go_wp2_with fail
  with_reducible refine (wakes_any _).mono ?_
  rintro e w7 ⟨rfl, b7⟩
  have T7 := (Two.mk q0 q1 q2 q3 q4).below b7
  have B7 := on B6 b7
  clear q0 q1 q2 q3 q4 b7 B6
  obtain ⟨q0, q1, q2, q3, q4⟩ := T7
  go_wp2
  go_ret
  exact ⟨rfl, B7⟩

set_option maxHeartbeats 2000000 in
theorem walkB (a b c d : Int) (ha : I64 a) (hb : I64 b) (hc : I64 c) (hd : I64 d) (w : World) (g : Int) (hg : Hid (((a.gcd b : Nat) : Int) = g ∧ I64 g)) (h0 : (g == 0) = true) (m1 : (a == 0) = true) (m2 : (b == 0) = true) :
    Calls Try.prog 8 #[.agg #[.int .i64 a, .int .i64 b], .agg #[.int .i64 c, .int .i64 d]] w fun e w' => e = .returned (.bool true) ∧ Below w.heap.size w w' := by
  have hwr : IntKind.i64.wrap (cmp3 (a * d) (c * b)) = cmp3 (a * d) (c * b) := by
    obtain ⟨cl, ch⟩ := cmp3_bd (a * d) (c * b)
    exact IntWalk.i64_in _ (by omega)
  go_enter Try.func8, Try.ntmps8
  go_wp2_with fail
  with_reducible refine (mul_any a b ha hb _).mono ?_
  rintro e w1 ⟨rfl, b1⟩
  have T1 := (two_new w a b c d).below b1
  have B1 := on (two_below w a b c d) b1
  obtain ⟨q0, q1, q2, q3, q4⟩ := T1
  go_wp2_with fail
  with_reducible refine (mul_turned a b ha hb _).mono ?_
  rintro e w2 ⟨rfl, b2⟩
  have T2 := (Two.mk q0 q1 q2 q3 q4).below b2
  have B2 := on B1 b2
  clear q0 q1 q2 q3 q4 b1 b2 B1
  obtain ⟨q0, q1, q2, q3, q4⟩ := T2
  go_wp2_with fail
  with_reducible refine (gcd_yes a b ha hb hg _).mono ?_
  rintro e w3 ⟨rfl, b3⟩
  have T3 := (Two.mk q0 q1 q2 q3 q4).below b3
  have B3 := on B2 b3
  clear q0 q1 q2 q3 q4 b3 B2
  obtain ⟨q0, q1, q2, q3, q4⟩ := T3
  go_wp2
  go_region_held3 (fun w' => w'.cell? ⟨w.heap.size, 0, none⟩ = some (.int .i64 a) ∧ w'.cell? ⟨w.heap.size, 1, none⟩ = some (.int .i64 b) ∧ w'.cell? ⟨w.heap.size + 1, 0, none⟩ = some (.int .i64 c) ∧ w'.cell? ⟨w.heap.size + 1, 1, none⟩ = some (.int .i64 d)) (first | exact ⟨q0, q1, q2, q3⟩ | exact (Two.below (Two.drew (Two.mk q0 q1 q2 q3 q4)) hb5).out | exact (Two.below (Two.below (Two.drew (Two.mk q0 q1 q2 q3 q4)) hb5) hb6).out)
    (first
      | (go_at_call_of 27 (Value.int IntKind.i64 a); (with_reducible refine (cross_any a b c d ha hb hc hd _).mono ?_); rintro e w5 ⟨rfl, hb5⟩)
      | (go_at_call 27; (with_reducible refine (cross_turned a b c d ha hb hc hd _).mono ?_); rintro e w6 ⟨rfl, hb6⟩))
  have T6 := Two.below (Two.below (Two.drew (Two.mk q0 q1 q2 q3 q4)) hb5) hb6
  have B6 := on (on B3.drew hb5) hb6
  clear q0 q1 q2 q3 q4 B3 hb5 hb6
  obtain ⟨q0, q1, q2, q3, q4⟩ := T6
  go_wp2_with fail
  with_reducible refine (wakes_any _).mono ?_
  rintro e w7 ⟨rfl, b7⟩
  have T7 := (Two.mk q0 q1 q2 q3 q4).below b7
  have B7 := on B6 b7
  clear q0 q1 q2 q3 q4 b7 B6
  obtain ⟨q0, q1, q2, q3, q4⟩ := T7
  go_wp2
  go_ret
  exact ⟨rfl, B7⟩

set_option maxHeartbeats 2000000 in
theorem walkC (a b c d : Int) (ha : I64 a) (hb : I64 b) (hc : I64 c) (hd : I64 d) (w : World) (hg : ¬ I64 (a.gcd b)) (m1 : (a == -9223372036854775808) = true) :
    Calls Try.prog 8 #[.agg #[.int .i64 a, .int .i64 b], .agg #[.int .i64 c, .int .i64 d]] w fun e w' => e = .returned (.bool true) ∧ Below w.heap.size w w' := by
  have hwr : IntKind.i64.wrap (cmp3 (a * d) (c * b)) = cmp3 (a * d) (c * b) := by
    obtain ⟨cl, ch⟩ := cmp3_bd (a * d) (c * b)
    exact IntWalk.i64_in _ (by omega)
  go_enter Try.func8, Try.ntmps8
  go_wp2_with fail
  with_reducible refine (mul_any a b ha hb _).mono ?_
  rintro e w1 ⟨rfl, b1⟩
  have T1 := (two_new w a b c d).below b1
  have B1 := on (two_below w a b c d) b1
  obtain ⟨q0, q1, q2, q3, q4⟩ := T1
  go_wp2_with fail
  with_reducible refine (mul_turned a b ha hb _).mono ?_
  rintro e w2 ⟨rfl, b2⟩
  have T2 := (Two.mk q0 q1 q2 q3 q4).below b2
  have B2 := on B1 b2
  clear q0 q1 q2 q3 q4 b1 b2 B1
  obtain ⟨q0, q1, q2, q3, q4⟩ := T2
  go_wp2_with fail
  with_reducible refine (gcd_no a b ha hb hg _).mono ?_
  rintro e w3 ⟨rfl, b3⟩
  have T3 := (Two.mk q0 q1 q2 q3 q4).below b3
  have B3 := on B2 b3
  clear q0 q1 q2 q3 q4 b3 B2
  obtain ⟨q0, q1, q2, q3, q4⟩ := T3
  go_wp2
  go_region_held3 (fun w' => w'.cell? ⟨w.heap.size, 0, none⟩ = some (.int .i64 a) ∧ w'.cell? ⟨w.heap.size, 1, none⟩ = some (.int .i64 b) ∧ w'.cell? ⟨w.heap.size + 1, 0, none⟩ = some (.int .i64 c) ∧ w'.cell? ⟨w.heap.size + 1, 1, none⟩ = some (.int .i64 d)) (first | exact ⟨q0, q1, q2, q3⟩ | exact (Two.below (Two.drew (Two.mk q0 q1 q2 q3 q4)) hb5).out | exact (Two.below (Two.below (Two.drew (Two.mk q0 q1 q2 q3 q4)) hb5) hb6).out)
    (first
      | (go_at_call_of 27 (Value.int IntKind.i64 a); (with_reducible refine (cross_any a b c d ha hb hc hd _).mono ?_); rintro e w5 ⟨rfl, hb5⟩)
      | (go_at_call 27; (with_reducible refine (cross_turned a b c d ha hb hc hd _).mono ?_); rintro e w6 ⟨rfl, hb6⟩))
  have T6 := Two.below (Two.below (Two.drew (Two.mk q0 q1 q2 q3 q4)) hb5) hb6
  have B6 := on (on B3.drew hb5) hb6
  clear q0 q1 q2 q3 q4 B3 hb5 hb6
  obtain ⟨q0, q1, q2, q3, q4⟩ := T6
  go_wp2_with fail
  with_reducible refine (wakes_any _).mono ?_
  rintro e w7 ⟨rfl, b7⟩
  have T7 := (Two.mk q0 q1 q2 q3 q4).below b7
  have B7 := on B6 b7
  clear q0 q1 q2 q3 q4 b7 B6
  obtain ⟨q0, q1, q2, q3, q4⟩ := T7
  go_wp2
  go_ret
  exact ⟨rfl, B7⟩

set_option maxHeartbeats 2000000 in
theorem walkD (a b c d : Int) (ha : I64 a) (hb : I64 b) (hc : I64 c) (hd : I64 d) (w : World) (hg : ¬ I64 (a.gcd b)) (m1 : (a == -9223372036854775808) = false) (m2 : (b == -9223372036854775808) = true) :
    Calls Try.prog 8 #[.agg #[.int .i64 a, .int .i64 b], .agg #[.int .i64 c, .int .i64 d]] w fun e w' => e = .returned (.bool true) ∧ Below w.heap.size w w' := by
  have hwr : IntKind.i64.wrap (cmp3 (a * d) (c * b)) = cmp3 (a * d) (c * b) := by
    obtain ⟨cl, ch⟩ := cmp3_bd (a * d) (c * b)
    exact IntWalk.i64_in _ (by omega)
  go_enter Try.func8, Try.ntmps8
  go_wp2_with fail
  with_reducible refine (mul_any a b ha hb _).mono ?_
  rintro e w1 ⟨rfl, b1⟩
  have T1 := (two_new w a b c d).below b1
  have B1 := on (two_below w a b c d) b1
  obtain ⟨q0, q1, q2, q3, q4⟩ := T1
  go_wp2_with fail
  with_reducible refine (mul_turned a b ha hb _).mono ?_
  rintro e w2 ⟨rfl, b2⟩
  have T2 := (Two.mk q0 q1 q2 q3 q4).below b2
  have B2 := on B1 b2
  clear q0 q1 q2 q3 q4 b1 b2 B1
  obtain ⟨q0, q1, q2, q3, q4⟩ := T2
  go_wp2_with fail
  with_reducible refine (gcd_no a b ha hb hg _).mono ?_
  rintro e w3 ⟨rfl, b3⟩
  have T3 := (Two.mk q0 q1 q2 q3 q4).below b3
  have B3 := on B2 b3
  clear q0 q1 q2 q3 q4 b3 B2
  obtain ⟨q0, q1, q2, q3, q4⟩ := T3
  go_wp2
  go_region_held3 (fun w' => w'.cell? ⟨w.heap.size, 0, none⟩ = some (.int .i64 a) ∧ w'.cell? ⟨w.heap.size, 1, none⟩ = some (.int .i64 b) ∧ w'.cell? ⟨w.heap.size + 1, 0, none⟩ = some (.int .i64 c) ∧ w'.cell? ⟨w.heap.size + 1, 1, none⟩ = some (.int .i64 d)) (first | exact ⟨q0, q1, q2, q3⟩ | exact (Two.below (Two.drew (Two.mk q0 q1 q2 q3 q4)) hb5).out | exact (Two.below (Two.below (Two.drew (Two.mk q0 q1 q2 q3 q4)) hb5) hb6).out)
    (first
      | (go_at_call_of 27 (Value.int IntKind.i64 a); (with_reducible refine (cross_any a b c d ha hb hc hd _).mono ?_); rintro e w5 ⟨rfl, hb5⟩)
      | (go_at_call 27; (with_reducible refine (cross_turned a b c d ha hb hc hd _).mono ?_); rintro e w6 ⟨rfl, hb6⟩))
  have T6 := Two.below (Two.below (Two.drew (Two.mk q0 q1 q2 q3 q4)) hb5) hb6
  have B6 := on (on B3.drew hb5) hb6
  clear q0 q1 q2 q3 q4 B3 hb5 hb6
  obtain ⟨q0, q1, q2, q3, q4⟩ := T6
  go_wp2_with fail
  with_reducible refine (wakes_any _).mono ?_
  rintro e w7 ⟨rfl, b7⟩
  have T7 := (Two.mk q0 q1 q2 q3 q4).below b7
  have B7 := on B6 b7
  clear q0 q1 q2 q3 q4 b7 B6
  obtain ⟨q0, q1, q2, q3, q4⟩ := T7
  go_wp2
  go_ret
  exact ⟨rfl, B7⟩

theorem walk (a b c d : Int) (ha : I64 a) (hb : I64 b) (hc : I64 c) (hd : I64 d) (w : World) :
    Calls Try.prog 8 #[.agg #[.int .i64 a, .int .i64 b], .agg #[.int .i64 c, .int .i64 d]] w fun e w' => e = .returned (.bool true) ∧ Below w.heap.size w w' := by
  by_cases hg : I64 (a.gcd b)
  · by_cases h0 : ((a.gcd b : Nat) : Int) = 0
    · have h1 : a.gcd b = 0 := by omega
      obtain ⟨e1, e2⟩ := Int.gcd_eq_zero_iff.1 h1
      exact walkB a b c d ha hb hc hd w _ ⟨rfl, hg⟩ (by simp [h0]) (by simp [e1]) (by simp [e2])
    · obtain ⟨m1, m2⟩ := gcd_rem h0
      exact walkA a b c d ha hb hc hd w _ ⟨rfl, hg⟩ (by omega) h0 m1 m2
  · by_cases h1 : a = -9223372036854775808
    · exact walkC a b c d ha hb hc hd w hg (by simp [h1])
    · exact walkD a b c d ha hb hc hd w hg (by simp [h1]) (by simpa using (gcd_big ha hb hg).resolve_left h1)

/-! ### the row -/
set_option maxRecDepth 100000 in
theorem lifted (os : Os) (started : os.Started) (H : Type) (enc : TypeId × Value → H) :
    ReturnsInHanded {} Try.checked os 8 .any (Rows.numTurnsSpec.pre6 enc Try.prog Try.f8 Rows.numTurnsRow.domain false) (Rows.numTurnsSpec.post enc Try.prog Try.f8 false true false false) := by
  refine returnsInHanded_of_change (C := Try.checked) own started (by kernel_rfl) Try.func8
    (ChangeSpec.witness6 (enc := enc) (C := Try.checked) false ⟨#[], #[.agg #[.int .i64 0, .int .i64 0], .agg #[.int .i64 0, .int .i64 0]], []⟩ 8 (by kernel_rfl) (by kernel_rfl) (by kernel_rfl) (by kernel_rfl)) ?_
  intro W base args ds gs before hval0 hW hcnd _
  have hval : ∀ (j : Nat) t v, Try.f8.params[j]? = some t → args[j]? = some v → Value.okWide Try.prog W .any base t v := hval0
  have hW' := hW
  obtain ⟨p, q, hA0, hV, rfl, hfz, hnd⟩ := hW
  have hA : DataW.TrodAll enc Try.prog W 0 (fun _ => true) true Try.f8.params.toList args.toList ds p := hA0
  rw [Try.params8] at hA hval
  obtain ⟨v0, vs0, d0, ds0, p0, q0, hargs, rfl, rfl, h0, r0⟩ := trodAll_cons hA
  obtain ⟨v1, vs1, d1, ds1, p1, q1, rfl, rfl, rfl, h1, r1⟩ := trodAll_cons r0
  obtain ⟨rfl, rfl, rfl⟩ := trodAll_nil r1
  obtain rfl : args = #[v0, v1] := by cases args; simp_all
  obtain ⟨rfl, rfl⟩ := trodVars_none hV
  have k0 := h0
  have lt0 : ∀ x ∈ p0, x.block < W.heap.size := by obtain ⟨m, hm⟩ := k0; exact DataW.trod_lt m _ _ _ hm
  obtain ⟨a0, b0, wa0, wb0, rfl⟩ := open_pair (hval 0 39 v0 rfl rfl) h0
  have k1 := h1
  have lt1 : ∀ x ∈ p1, x.block < W.heap.size := by obtain ⟨m, hm⟩ := k1; exact DataW.trod_lt m _ _ _ hm
  obtain ⟨a1, b1, wa1, wb1, rfl⟩ := open_pair (hval 1 39 v1 rfl rfl) h1
  clear hA0 hval0
  refine (walk a0 b0 a1 b1 wa0 wb0 wa1 wb1 W).mono fun e W' ⟨he, bel⟩ => ?_
  subst he
  exact ⟨_, rfl, _, _, _, [], _, [], hW', trodAll_mk1 (shut_bool Try.underlying4 _), (trodAll_cons_mk (Below.trod laidOut (by kernel_rfl) (of_decide_eq_true (by kernel_rfl)) k0 bel lt0) (trodAll_cons_mk (Below.trod laidOut (by kernel_rfl) (of_decide_eq_true (by kernel_rfl)) k1 bel lt1) trodAll_mk0)), rfl, bel.frame _, fun h => by cases h⟩

theorem over : Rows.numTurnsRow.holds Try.pinned (OpenSpec.ofChange Rows.numTurnsSpec) :=
  OpenClaim.holds_of_wide 8 Try.f8 rfl rfl rfl rfl rfl rfl rfl ⟨rfl, rfl, rfl, rfl, rfl⟩ rfl rfl rfl rfl rfl (by kernel_rfl) Try.func8 (by kernel_rfl)
    (of_decide_eq_true (by kernel_rfl)) (by unfold Func.isWrapper; first | (rw [if_pos (by decide +kernel)]; kernel_rfl) | (rw [if_neg (by decide +kernel)]; exact ⟨rfl, rfl⟩))
    (fun os started H enc _ => lifted os started H enc)

end Go.Proofs.Ytbkfmkbjfifgjaa.numTurns
namespace Go.Proofs.Ytbkfmkbjfifgjaa
theorem numTurns_holds : Rows.NumTurnsSaid := numTurns.over
#print axioms numTurns_holds
end Go.Proofs.Ytbkfmkbjfifgjaa
