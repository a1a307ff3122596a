/-
  What each call of the document's own numbers (package secateurref01) does, eighth part: Cross.
-/
import Derived.Test.YtjaabjehegcnaaaDoorBigWalks7
namespace Go.Proofs.YtjaabjehegcnaaaDoor
set_option maxRecDepth 100000
open Go.RowKit

/-- A number lies in a variable of its own. -/
structure Held (n : Nat) (p : Bool) (x : Option Addr) (l k : Nat) (w : World) : Prop where
  mk ::
  c0 : w.cell? ⟨n, 0, none⟩ = some (.bool p)
  c1 : w.cell? ⟨n, 1, none⟩ = some (.slice x l k)
  size : n < w.heap.size
theorem Held.next {n : Nat} {p : Bool} {x : Option Addr} {l k : Nat} {w w' : World} (h : Held n p x l k w) (hb : Below w.heap.size w w') : Held n p x l k w' :=
  ⟨by rw [hb.cell (by exact h.size)]; exact h.c0, by rw [hb.cell (by exact h.size)]; exact h.c1, Nat.lt_of_lt_of_le h.size hb.size⟩
theorem Held.alloc {n : Nat} {p : Bool} {x : Option Addr} {l k : Nat} {w : World} (h : Held n p x l k w) (o : Obj) : Held n p x l k (w.alloc o) := h.next (one_below w o)
theorem held_new (w : World) (p : Bool) (x : Option Addr) (l k : Nat) : Held w.heap.size p x l k (w.alloc (.cells #[.bool p, .slice x l k] 59)) :=
  ⟨by simp [go_sem], by simp [go_sem], by simp⟩
theorem two_below (w : World) (o1 o2 : Obj) : Below w.heap.size w ((w.alloc o1).alloc o2) := ((Below.refl _ _).alloc (Nat.le_refl _) _).alloc (by simp) _
theorem held_new2 (w : World) (o : Obj) (p : Bool) (x : Option Addr) (l k : Nat) : Held (w.heap.size + 1) p x l k ((w.alloc o).alloc (.cells #[.bool p, .slice x l k] 59)) :=
  ⟨by simp [go_sem], by simp [go_sem], by simp⟩
theorem Rep.form {w : World} {v : Value} {z : Int} (h : Rep w v z) : ∃ p x l k, v = .agg #[.bool p, .slice x l k] ∧ Rep w (.agg #[.bool p, .slice x l k]) z := by
  obtain ⟨x, c, rfl, hD⟩ := h
  exact ⟨_, _, _, _, rfl, x, c, rfl, hD⟩

theorem Rep.drew {w : World} {v : Value} {z : Int} (h : Rep w v z) : Rep w.drew v z := h
theorem Held.drew {n : Nat} {p : Bool} {x : Option Addr} {l k : Nat} {w : World} (h : Held n p x l k w) : Held n p x l k w.drew := ⟨h.c0, h.c1, h.size⟩
theorem two_held {n n' : Nat} {p p' : Bool} {x x' : Option Addr} {l l' k k' : Nat} {w : World} (h : Held n p x l k w) (h' : Held n' p' x' l' k' w) :
    w.cell? ⟨n, 0, none⟩ = some (.bool p) ∧ w.cell? ⟨n, 1, none⟩ = some (.slice x l k) ∧ w.cell? ⟨n', 0, none⟩ = some (.bool p') ∧ w.cell? ⟨n', 1, none⟩ = some (.slice x' l' k') := ⟨h.c0, h.c1, h'.c0, h'.c1⟩

theorem few_i64 {a : Int} (h : I64 a) : Few a := few_of 4 (by omega) (by unfold I64 at h; omega)
theorem few_mul {a b : Int} (ha : I64 a) (hb : I64 b) : Few (a * b) := by
  have h := mul_bounds ha hb
  unfold W128 at h
  exact few_of 8 (by omega) (by omega)

set_option maxHeartbeats 2000000 in
theorem rcross_any (a b c d : Int) (ha : I64 a) (hb : I64 b) (hc : I64 c) (hd : I64 d) (w : World) :
    Calls Tryd.prog 44 #[.int .i64 a, .int .i64 b, .int .i64 c, .int .i64 d] w fun e w' => e = .returned (.int .i64 (cmp3 (a * d) (c * b))) ∧ Below w.heap.size w w' := by
  have fa := few_i64 ha
  have fb := few_i64 hb
  have fc := few_i64 hc
  have fd := few_i64 hd
  go_enter Tryd.func44, Tryd.ntmps44
  go_wp2_with fail
  with_reducible refine (of_any a ha _).mono ?_
  rintro e w1 ⟨⟨vA, rfl, QA⟩, b1⟩
  have B1 : Below w.heap.size w w1 := b1
  clear b1
  obtain ⟨pA, xA, lA, kA, rfl, RA⟩ := QA.form
  go_wp2_with fail
  with_reducible refine (of_any b hb _).mono ?_
  rintro e w2 ⟨⟨vB, rfl, QB⟩, b2⟩
  have B2 : Below w.heap.size w w2 := on (B1.alloc B1.size _) b2
  have HA2 := (held_new w1 pA xA lA kA).next b2
  have RA2 := (RA.below (one_below _ _)).below b2
  clear RA b2 B1
  obtain ⟨cA, dA, sA⟩ := HA2
  have RA := RA2
  clear RA2
  obtain ⟨pB, xB, lB, kB, rfl, RB⟩ := QB.form
  go_wp2_with fail
  with_reducible refine (of_any c hc _).mono ?_
  rintro e w3 ⟨⟨vC, rfl, QC⟩, b3⟩
  have B3 : Below w.heap.size w w3 := on (B2.alloc B2.size _) b3
  have HA3 := ((Held.mk cA dA sA).alloc (.cells #[.bool pB, .slice xB lB kB] 59)).next b3
  have RA3 := (RA.below (one_below _ _)).below b3
  have HB3 := (held_new w2 pB xB lB kB).next b3
  have RB3 := (RB.below (one_below _ _)).below b3
  clear cA dA sA RA RB b3 B2
  obtain ⟨cA, dA, sA⟩ := HA3
  have RA := RA3
  clear RA3
  obtain ⟨cB, dB, sB⟩ := HB3
  have RB := RB3
  clear RB3
  obtain ⟨pC, xC, lC, kC, rfl, RC⟩ := QC.form
  go_wp2_with fail
  with_reducible refine (of_any d hd _).mono ?_
  rintro e w4 ⟨⟨vD, rfl, QD⟩, b4⟩
  have B4 : Below w.heap.size w w4 := on (B3.alloc B3.size _) b4
  have HA4 := ((Held.mk cA dA sA).alloc (.cells #[.bool pC, .slice xC lC kC] 59)).next b4
  have RA4 := (RA.below (one_below _ _)).below b4
  have HB4 := ((Held.mk cB dB sB).alloc (.cells #[.bool pC, .slice xC lC kC] 59)).next b4
  have RB4 := (RB.below (one_below _ _)).below b4
  have HC4 := (held_new w3 pC xC lC kC).next b4
  have RC4 := (RC.below (one_below _ _)).below b4
  clear cA dA sA RA cB dB sB RB RC b4 B3
  obtain ⟨cA, dA, sA⟩ := HA4
  have RA := RA4
  clear RA4
  obtain ⟨cB, dB, sB⟩ := HB4
  have RB := RB4
  clear RB4
  obtain ⟨cC, dC, sC⟩ := HC4
  have RC := RC4
  clear RC4
  obtain ⟨pD, xD, lD, kD, rfl, RD⟩ := QD.form
  go_wp2_with fail
  with_reducible refine (rmul_rep a d _ _ _ (RA.below (one_below _ _)) (RD.below (one_below _ _)) fa fd).mono ?_
  rintro e w5 ⟨⟨vP, rfl, QP⟩, b5⟩
  have B5 : Below w.heap.size w w5 := on (B4.alloc B4.size _) b5
  have HA5 := ((Held.mk cA dA sA).alloc (.cells #[.bool pD, .slice xD lD kD] 59)).next b5
  have RA5 := (RA.below (one_below _ _)).below b5
  have HB5 := ((Held.mk cB dB sB).alloc (.cells #[.bool pD, .slice xD lD kD] 59)).next b5
  have RB5 := (RB.below (one_below _ _)).below b5
  have HC5 := ((Held.mk cC dC sC).alloc (.cells #[.bool pD, .slice xD lD kD] 59)).next b5
  have RC5 := (RC.below (one_below _ _)).below b5
  have HD5 := (held_new w4 pD xD lD kD).next b5
  have RD5 := (RD.below (one_below _ _)).below b5
  clear cA dA sA RA cB dB sB RB cC dC sC RC RD b5 B4
  obtain ⟨cA, dA, sA⟩ := HA5
  have RA := RA5
  clear RA5
  obtain ⟨cB, dB, sB⟩ := HB5
  have RB := RB5
  clear RB5
  obtain ⟨cC, dC, sC⟩ := HC5
  have RC := RC5
  clear RC5
  obtain ⟨cD, dD, sD⟩ := HD5
  have RD := RD5
  clear RD5
  obtain ⟨pP, xP, lP, kP, rfl, RP⟩ := QP.form
  go_wp2_with fail
  with_reducible refine (rmul_rep c b _ _ _ (RC.below (one_below _ _)) (RB.below (one_below _ _)) fc fb).mono ?_
  rintro e w6 ⟨⟨vQ, rfl, QQ⟩, b6⟩
  have B6 : Below w.heap.size w w6 := on (B5.alloc B5.size _) b6
  have HA6 := ((Held.mk cA dA sA).alloc (.cells #[.bool pP, .slice xP lP kP] 59)).next b6
  have RA6 := (RA.below (one_below _ _)).below b6
  have HB6 := ((Held.mk cB dB sB).alloc (.cells #[.bool pP, .slice xP lP kP] 59)).next b6
  have RB6 := (RB.below (one_below _ _)).below b6
  have HC6 := ((Held.mk cC dC sC).alloc (.cells #[.bool pP, .slice xP lP kP] 59)).next b6
  have RC6 := (RC.below (one_below _ _)).below b6
  have HD6 := ((Held.mk cD dD sD).alloc (.cells #[.bool pP, .slice xP lP kP] 59)).next b6
  have RD6 := (RD.below (one_below _ _)).below b6
  have HP6 := (held_new w5 pP xP lP kP).next b6
  have RP6 := (RP.below (one_below _ _)).below b6
  clear cA dA sA RA cB dB sB RB cC dC sC RC cD dD sD RD RP b6 B5
  obtain ⟨cA, dA, sA⟩ := HA6
  have RA := RA6
  clear RA6
  obtain ⟨cB, dB, sB⟩ := HB6
  have RB := RB6
  clear RB6
  obtain ⟨cC, dC, sC⟩ := HC6
  have RC := RC6
  clear RC6
  obtain ⟨cD, dD, sD⟩ := HD6
  have RD := RD6
  clear RD6
  obtain ⟨cP, dP, sP⟩ := HP6
  have RP := RP6
  clear RP6
  obtain ⟨pQ, xQ, lQ, kQ, rfl, RQ⟩ := QQ.form
  go_wp2_with fail
  with_reducible refine (cmp_rep (a * d) (c * b) _ _ _ (RP.below (one_below _ _)) (RQ.below (one_below _ _))).mono ?_
  rintro e w7 ⟨rfl, b7⟩
  have B7 : Below w.heap.size w w7 := on (B6.alloc B6.size _) b7
  have HA7 := ((Held.mk cA dA sA).alloc (.cells #[.bool pQ, .slice xQ lQ kQ] 59)).next b7
  have RA7 := (RA.below (one_below _ _)).below b7
  have HB7 := ((Held.mk cB dB sB).alloc (.cells #[.bool pQ, .slice xQ lQ kQ] 59)).next b7
  have RB7 := (RB.below (one_below _ _)).below b7
  have HC7 := ((Held.mk cC dC sC).alloc (.cells #[.bool pQ, .slice xQ lQ kQ] 59)).next b7
  have RC7 := (RC.below (one_below _ _)).below b7
  have HD7 := ((Held.mk cD dD sD).alloc (.cells #[.bool pQ, .slice xQ lQ kQ] 59)).next b7
  have RD7 := (RD.below (one_below _ _)).below b7
  have HP7 := ((Held.mk cP dP sP).alloc (.cells #[.bool pQ, .slice xQ lQ kQ] 59)).next b7
  have RP7 := (RP.below (one_below _ _)).below b7
  have HQ7 := (held_new w6 pQ xQ lQ kQ).next b7
  have RQ7 := (RQ.below (one_below _ _)).below b7
  clear cA dA sA RA cB dB sB RB cC dC sC RC cD dD sD RD cP dP sP RP RQ b7 B6
  obtain ⟨cA, dA, sA⟩ := HA7
  have RA := RA7
  clear RA7
  obtain ⟨cB, dB, sB⟩ := HB7
  have RB := RB7
  clear RB7
  obtain ⟨cC, dC, sC⟩ := HC7
  have RC := RC7
  clear RC7
  obtain ⟨cD, dD, sD⟩ := HD7
  have RD := RD7
  clear RD7
  obtain ⟨cP, dP, sP⟩ := HP7
  have RP := RP7
  clear RP7
  obtain ⟨cQ, dQ, sQ⟩ := HQ7
  have RQ := RQ7
  clear RQ7
  go_wp2
  go_ret
  exact ⟨rfl, B7⟩
end Go.Proofs.YtjaabjehegcnaaaDoor
