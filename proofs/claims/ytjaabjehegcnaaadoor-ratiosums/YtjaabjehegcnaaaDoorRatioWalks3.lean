/-
  What each call of package ratio (layer 2) does, third part: Add, Mul.
-/
import Derived.Test.YtjaabjehegcnaaaDoorRatioWalks
import Derived.Test.YtjaabjehegcnaaaDoorRatioMath2
namespace Go.Proofs.YtjaabjehegcnaaaDoor
set_option maxRecDepth 100000
open Go.RowKit

/-- Two ratios that came in, and the result. -/
structure Duo (n : Nat) (a b c d : Int) (w : World) : Prop where
  mk ::
  A : RBox n a b w
  B : RBox (n + 1) c d w
  R : RBox (n + 2) 0 0 w
theorem Duo.next {n : Nat} {a b c d : Int} {w w' : World} (h : Duo n a b c d w) (hb : Below w.heap.size w w') : Duo n a b c d w' := ⟨h.A.next hb, h.B.next hb, h.R.next hb⟩
theorem Duo.drew {n : Nat} {a b c d : Int} {w : World} (h : Duo n a b c d w) : Duo n a b c d w.drew := h.next (Below.refl _ _).drew
theorem Duo.out {n : Nat} {a b c d : Int} {w : World} (h : Duo n a b c d w) : w.cell? ⟨n, 0, none⟩ = some (.int .i64 a) ∧ w.cell? ⟨n, 1, none⟩ = some (.int .i64 b) ∧ w.cell? ⟨n + 1, 0, none⟩ = some (.int .i64 c) ∧ w.cell? ⟨n + 1, 1, none⟩ = some (.int .i64 d) := ⟨h.A.c0, h.A.c1, h.B.c0, h.B.c1⟩
theorem duo_new (w : World) (a b c d : Int) (t : TypeId) : Duo w.heap.size a b c d (((w.alloc (.cells #[.int .i64 a, .int .i64 b] t)).alloc (.cells #[.int .i64 c, .int .i64 d] t)).alloc (.cells #[.int .i64 0, .int .i64 0] t)) :=
  ⟨⟨by simp [go_sem], by simp [go_sem], by simp [go_sem], by simp [go_sem], by simp; omega⟩, ⟨by simp [go_sem], by simp [go_sem], by simp [go_sem], by simp [go_sem], by simp⟩, ⟨by simp [go_sem], by simp [go_sem], by simp [go_sem], by simp [go_sem], by simp⟩⟩
theorem three_new (w : World) (o1 o2 o3 : Obj) : Below w.heap.size w (((w.alloc o1).alloc o2).alloc o3) := (((Below.refl _ _).alloc (Nat.le_refl _) _).alloc (by simp) _).alloc (by simp; omega) _

set_option maxHeartbeats 8000000 in
theorem padd_main (a b c d p q g x y n m : Int) (h1 h2 h3 h4 : Bool)
    (G1 : ∀ w, Calls Tryd.prog 14 #[.agg #[.int .i64 a, .int .i64 b]] w fun e w' => e = .returned (.bool true) ∧ Below w.heap.size w w') (G2 : ∀ w, Calls Tryd.prog 14 #[.agg #[.int .i64 c, .int .i64 d]] w fun e w' => e = .returned (.bool true) ∧ Below w.heap.size w w')
    (G : ∀ w, Calls Tryd.prog 42 #[.int .i64 b, .int .i64 d] w fun e w' => e = .returned (.int .i64 g) ∧ Below w.heap.size w w') (hg : 0 < g) (t1 : b.tdiv g = p) (t2 : d.tdiv g = q) (ip : I64 p) (iq : I64 q)
    (MX : ∀ w, Calls Tryd.prog 48 #[.int .i64 a, .int .i64 q] w fun e w' => e = .returned (.tuple #[.int .i64 x, .bool h1]) ∧ Below w.heap.size w w')
    (MY : ∀ w, Calls Tryd.prog 48 #[.int .i64 c, .int .i64 p] w fun e w' => e = .returned (.tuple #[.int .i64 y, .bool h2]) ∧ Below w.heap.size w w')
    (AD : ∀ w, Calls Tryd.prog 49 #[.int .i64 x, .int .i64 y] w fun e w' => e = .returned (.tuple #[.int .i64 n, .bool h3]) ∧ Below w.heap.size w w')
    (MM : ∀ w, Calls Tryd.prog 48 #[.int .i64 b, .int .i64 q] w fun e w' => e = .returned (.tuple #[.int .i64 m, .bool h4]) ∧ Below w.heap.size w w')
    (LO : (h1 && h2 && h3 && h4) = true → ∀ w, Calls Tryd.prog 37 #[.int .i64 n, .int .i64 m] w fun e w' => e = .returned (mkV n m) ∧ Below w.heap.size w w') (w : World) :
    Calls Tryd.prog 23 #[.agg #[.int .i64 a, .int .i64 b], .agg #[.int .i64 c, .int .i64 d]] w fun e w' => e = .returned (.tuple #[.agg #[.int .i64 (if (h1 && h2 && h3 && h4) = true then mkN n m else 0), .int .i64 (if (h1 && h2 && h3 && h4) = true then mkD n m else 0)], .bool (h1 && h2 && h3 && h4 && mkB n m)]) ∧ Below w.heap.size w w' := by
  have hgne : ¬ g = 0 := by omega
  have W1 := kwrap_in ip
  have W2 := kwrap_in iq
  have HL := Lib.hid LO
  clear LO
  go_enter Tryd.func23, Tryd.ntmps23
  go_wp2_with fail
  with_reducible refine (G1 _).mono ?_
  rintro e w1 ⟨rfl, b1⟩
  have D1 := (duo_new w a b c d 23).next b1
  have B1 : Below w.heap.size w w1 := on (three_new w _ _ _) b1
  clear b1
  obtain ⟨⟨a0, a1, a2, a3, a4⟩, ⟨c0, c1, c2, c3, c4⟩, ⟨r0, r1, r2, r3, r4⟩⟩ := D1
  go_wp2_with fail
  with_reducible refine (G2 _).mono ?_
  rintro e w2 ⟨rfl, b2⟩
  have D2 := (Duo.mk ⟨a0, a1, a2, a3, a4⟩ ⟨c0, c1, c2, c3, c4⟩ ⟨r0, r1, r2, r3, r4⟩).next b2
  have B2 := on B1 b2
  clear b2 B1 a0 a1 a2 a3 a4 c0 c1 c2 c3 c4 r0 r1 r2 r3 r4
  obtain ⟨⟨a0, a1, a2, a3, a4⟩, ⟨c0, c1, c2, c3, c4⟩, ⟨r0, r1, r2, r3, r4⟩⟩ := D2
  go_wp2_with fail
  with_reducible refine (G _).mono ?_
  rintro e w3 ⟨rfl, b3⟩
  have D3 := (Duo.mk ⟨a0, a1, a2, a3, a4⟩ ⟨c0, c1, c2, c3, c4⟩ ⟨r0, r1, r2, r3, r4⟩).next b3
  have B3 := on B2 b3
  clear b3 B2 a0 a1 a2 a3 a4 c0 c1 c2 c3 c4 r0 r1 r2 r3 r4
  have H3 := Lib.hid D3
  obtain ⟨⟨a0, a1, a2, a3, a4⟩, ⟨c0, c1, c2, c3, c4⟩, ⟨r0, r1, r2, r3, r4⟩⟩ := D3
  go_wp2
  go_region_held3 (fun w' => w'.cell? ⟨w.heap.size, 0, none⟩ = some (.int .i64 a) ∧ w'.cell? ⟨w.heap.size, 1, none⟩ = some (.int .i64 b) ∧ w'.cell? ⟨w.heap.size + 1, 0, none⟩ = some (.int .i64 c) ∧ w'.cell? ⟨w.heap.size + 1, 1, none⟩ = some (.int .i64 d)) (first | exact ⟨a0, a1, c0, c1⟩ | exact (H3.out.drew.next b4).out)
    (first
      | (go_at_call 48; (with_reducible refine (MX _).mono ?_); rintro e w4 ⟨rfl, b4⟩))
  have D4 := H3.out.drew.next b4
  have B4 := on B3.drew b4
  clear b4 B3 H3 a0 a1 a2 a3 a4 c0 c1 c2 c3 c4 r0 r1 r2 r3 r4
  have H4 := Lib.hid D4
  obtain ⟨⟨a0, a1, a2, a3, a4⟩, ⟨c0, c1, c2, c3, c4⟩, ⟨r0, r1, r2, r3, r4⟩⟩ := D4
  go_wp2
  go_region_held3 (fun w' => w'.cell? ⟨w.heap.size, 0, none⟩ = some (.int .i64 a) ∧ w'.cell? ⟨w.heap.size, 1, none⟩ = some (.int .i64 b) ∧ w'.cell? ⟨w.heap.size + 1, 0, none⟩ = some (.int .i64 c) ∧ w'.cell? ⟨w.heap.size + 1, 1, none⟩ = some (.int .i64 d)) (first | exact ⟨a0, a1, c0, c1⟩ | exact (H4.out.drew.next b5).out)
    (first
      | (go_at_call 48; (with_reducible refine (MY _).mono ?_); rintro e w5 ⟨rfl, b5⟩))
  have D5 := H4.out.drew.next b5
  have B5 := on B4.drew b5
  clear b5 B4 H4 a0 a1 a2 a3 a4 c0 c1 c2 c3 c4 r0 r1 r2 r3 r4
  have H5 := Lib.hid D5
  obtain ⟨⟨a0, a1, a2, a3, a4⟩, ⟨c0, c1, c2, c3, c4⟩, ⟨r0, r1, r2, r3, r4⟩⟩ := D5
  go_wp2_with fail
  with_reducible refine (AD _).mono ?_
  rintro e w6 ⟨rfl, b6⟩
  have D6 := H5.out.next b6
  have B6 := on B5 b6
  clear b6 B5 H5 a0 a1 a2 a3 a4 c0 c1 c2 c3 c4 r0 r1 r2 r3 r4
  have H6 := Lib.hid D6
  obtain ⟨⟨a0, a1, a2, a3, a4⟩, ⟨c0, c1, c2, c3, c4⟩, ⟨r0, r1, r2, r3, r4⟩⟩ := D6
  go_wp2
  go_region_held3 (fun w' => w'.cell? ⟨w.heap.size, 0, none⟩ = some (.int .i64 a) ∧ w'.cell? ⟨w.heap.size, 1, none⟩ = some (.int .i64 b) ∧ w'.cell? ⟨w.heap.size + 1, 0, none⟩ = some (.int .i64 c) ∧ w'.cell? ⟨w.heap.size + 1, 1, none⟩ = some (.int .i64 d)) (first | exact ⟨a0, a1, c0, c1⟩ | exact (H6.out.drew.next b7).out)
    (first
      | (go_at_call 48; (with_reducible refine (MM _).mono ?_); rintro e w7 ⟨rfl, b7⟩))
  have D7 := H6.out.drew.next b7
  have B7 := on B6.drew b7
  clear b7 B6 H6 a0 a1 a2 a3 a4 c0 c1 c2 c3 c4 r0 r1 r2 r3 r4
  have H7 := Lib.hid D7
  obtain ⟨⟨a0, a1, a2, a3, a4⟩, ⟨c0, c1, c2, c3, c4⟩, ⟨r0, r1, r2, r3, r4⟩⟩ := D7
  clear H7 MX MY AD MM G G1 G2
  cases h1 <;> cases h2 <;> cases h3 <;> cases h4
  case true.true.true.true =>
    have LO := HL.out rfl
    unfold mkV at LO
    clear HL
    go_wp2_with fail
    with_reducible refine (LO _).mono ?_
    rintro e w8 ⟨rfl, b8⟩
    obtain ⟨r0, r1, r2, r3, r4⟩ := (RBox.mk r0 r1 r2 r3 r4).next b8
    have B8 := on B7 b8
    go_wp2
    exact bodyPost_ret (v := .tuple #[.agg #[.int .i64 (mkN n m), .int .i64 (mkD n m)], .bool (mkB n m)]) (by simp [results, Tryd.results23, go_sem, r0, r1]) rfl ⟨by simp, (B8.setCell (by show w.heap.size ≤ w.heap.size + 2; omega) _).setCell (by show w.heap.size ≤ w.heap.size + 2; omega) _⟩
  all_goals
    clear HL
    go_wp2
    exact bodyPost_ret (v := .tuple #[.agg #[.int .i64 0, .int .i64 0], .bool false]) (by simp [results, Tryd.results23, go_sem, r0, r1]) rfl ⟨by simp, (B7.setCell (by show w.heap.size ≤ w.heap.size + 2; omega) _).setCell (by show w.heap.size ≤ w.heap.size + 2; omega) _⟩

set_option maxHeartbeats 8000000 in
theorem pmul_main (a b c d p q r s g h n m : Int) (h1 h2 : Bool)
    (G1 : ∀ w, Calls Tryd.prog 14 #[.agg #[.int .i64 a, .int .i64 b]] w fun e w' => e = .returned (.bool true) ∧ Below w.heap.size w w') (G2 : ∀ w, Calls Tryd.prog 14 #[.agg #[.int .i64 c, .int .i64 d]] w fun e w' => e = .returned (.bool true) ∧ Below w.heap.size w w')
    (G : ∀ w, Calls Tryd.prog 42 #[.int .i64 a, .int .i64 d] w fun e w' => e = .returned (.int .i64 g) ∧ Below w.heap.size w w') (hg : 0 < g)
    (H : ∀ w, Calls Tryd.prog 42 #[.int .i64 c, .int .i64 b] w fun e w' => e = .returned (.int .i64 h) ∧ Below w.heap.size w w') (hh : 0 < h)
    (t1 : a.tdiv g = p) (t2 : b.tdiv h = q) (t3 : c.tdiv h = r) (t4 : d.tdiv g = s) (ip : I64 p) (iq : I64 q) (ir : I64 r) (is : I64 s)
    (MX : ∀ w, Calls Tryd.prog 48 #[.int .i64 p, .int .i64 r] w fun e w' => e = .returned (.tuple #[.int .i64 n, .bool h1]) ∧ Below w.heap.size w w')
    (MY : ∀ w, Calls Tryd.prog 48 #[.int .i64 q, .int .i64 s] w fun e w' => e = .returned (.tuple #[.int .i64 m, .bool h2]) ∧ Below w.heap.size w w') (w : World) :
    Calls Tryd.prog 25 #[.agg #[.int .i64 a, .int .i64 b], .agg #[.int .i64 c, .int .i64 d]] w fun e w' => e = .returned (.tuple #[.agg #[.int .i64 (if (h1 && h2) = true then n else 0), .int .i64 (if (h1 && h2) = true then m else 0)], .bool (h1 && h2)]) ∧ Below w.heap.size w w' := by
  have hgne : ¬ g = 0 := by omega
  have hhne : ¬ h = 0 := by omega
  have W1 := kwrap_in ip
  have W2 := kwrap_in iq
  have W3 := kwrap_in ir
  have W4 := kwrap_in is
  go_enter Tryd.func25, Tryd.ntmps25
  go_wp2_with fail
  with_reducible refine (G1 _).mono ?_
  rintro e w1 ⟨rfl, b1⟩
  have D1 := (duo_new w a b c d 23).next b1
  have B1 : Below w.heap.size w w1 := on (three_new w _ _ _) b1
  clear b1
  obtain ⟨⟨a0, a1, a2, a3, a4⟩, ⟨c0, c1, c2, c3, c4⟩, ⟨r0, r1, r2, r3, r4⟩⟩ := D1
  go_wp2_with fail
  with_reducible refine (G2 _).mono ?_
  rintro e w2 ⟨rfl, b2⟩
  have D2 := (Duo.mk ⟨a0, a1, a2, a3, a4⟩ ⟨c0, c1, c2, c3, c4⟩ ⟨r0, r1, r2, r3, r4⟩).next b2
  have B2 := on B1 b2
  clear b2 B1 a0 a1 a2 a3 a4 c0 c1 c2 c3 c4 r0 r1 r2 r3 r4
  have H2 := Lib.hid D2
  obtain ⟨⟨a0, a1, a2, a3, a4⟩, ⟨c0, c1, c2, c3, c4⟩, ⟨r0, r1, r2, r3, r4⟩⟩ := D2
  go_wp2
  go_region_held3 (fun w' => w'.cell? ⟨w.heap.size, 0, none⟩ = some (.int .i64 a) ∧ w'.cell? ⟨w.heap.size, 1, none⟩ = some (.int .i64 b) ∧ w'.cell? ⟨w.heap.size + 1, 0, none⟩ = some (.int .i64 c) ∧ w'.cell? ⟨w.heap.size + 1, 1, none⟩ = some (.int .i64 d)) (first | exact ⟨a0, a1, c0, c1⟩ | exact (H2.out.drew.next b3).out | exact ((H2.out.drew.next b3).next b4).out)
    (first
      | (go_at_call_of 42 (Value.int IntKind.i64 a); (with_reducible refine (G _).mono ?_); rintro e w3 ⟨rfl, b3⟩)
      | (go_at_call 42; (with_reducible refine (H _).mono ?_); rintro e w4 ⟨rfl, b4⟩))
  have D4 := (H2.out.drew.next b3).next b4
  have B4 := on (on B2.drew b3) b4
  clear b3 b4 B2 H2 a0 a1 a2 a3 a4 c0 c1 c2 c3 c4 r0 r1 r2 r3 r4
  have H4 := Lib.hid D4
  obtain ⟨⟨a0, a1, a2, a3, a4⟩, ⟨c0, c1, c2, c3, c4⟩, ⟨r0, r1, r2, r3, r4⟩⟩ := D4
  go_wp2
  go_region_held3 (fun w' => w'.cell? ⟨w.heap.size, 0, none⟩ = some (.int .i64 a) ∧ w'.cell? ⟨w.heap.size, 1, none⟩ = some (.int .i64 b) ∧ w'.cell? ⟨w.heap.size + 1, 0, none⟩ = some (.int .i64 c) ∧ w'.cell? ⟨w.heap.size + 1, 1, none⟩ = some (.int .i64 d)) (first | exact ⟨a0, a1, c0, c1⟩ | exact (H4.out.drew.next b5).out)
    (first
      | (go_at_call 48; (with_reducible refine (MX _).mono ?_); rintro e w5 ⟨rfl, b5⟩))
  have D5 := H4.out.drew.next b5
  have B5 := on B4.drew b5
  clear b5 B4 H4 a0 a1 a2 a3 a4 c0 c1 c2 c3 c4 r0 r1 r2 r3 r4
  have H5 := Lib.hid D5
  obtain ⟨⟨a0, a1, a2, a3, a4⟩, ⟨c0, c1, c2, c3, c4⟩, ⟨r0, r1, r2, r3, r4⟩⟩ := D5
  go_wp2
  go_region_held3 (fun w' => w'.cell? ⟨w.heap.size, 0, none⟩ = some (.int .i64 a) ∧ w'.cell? ⟨w.heap.size, 1, none⟩ = some (.int .i64 b) ∧ w'.cell? ⟨w.heap.size + 1, 0, none⟩ = some (.int .i64 c) ∧ w'.cell? ⟨w.heap.size + 1, 1, none⟩ = some (.int .i64 d)) (first | exact ⟨a0, a1, c0, c1⟩ | exact (H5.out.drew.next b6).out)
    (first
      | (go_at_call 48; (with_reducible refine (MY _).mono ?_); rintro e w6 ⟨rfl, b6⟩))
  have D6 := H5.out.drew.next b6
  have B6 := on B5.drew b6
  clear b6 B5 H5 a0 a1 a2 a3 a4 c0 c1 c2 c3 c4 r0 r1 r2 r3 r4
  have H6 := Lib.hid D6
  obtain ⟨⟨a0, a1, a2, a3, a4⟩, ⟨c0, c1, c2, c3, c4⟩, ⟨r0, r1, r2, r3, r4⟩⟩ := D6
  clear H6 MX MY G H G1 G2
  cases h1 <;> cases h2
  case true.true =>
    go_wp2
    exact bodyPost_ret (v := .tuple #[.agg #[.int .i64 n, .int .i64 m], .bool true]) (by simp [results, Tryd.results25, go_sem, r0, r1]) rfl ⟨by simp, (B6.setCell (by show w.heap.size ≤ w.heap.size + 2; omega) _).setCell (by show w.heap.size ≤ w.heap.size + 2; omega) _⟩
  all_goals
    go_wp2
    exact bodyPost_ret (v := .tuple #[.agg #[.int .i64 0, .int .i64 0], .bool false]) (by simp [results, Tryd.results25, go_sem, r0, r1]) rfl ⟨by simp, (B6.setCell (by show w.heap.size ≤ w.heap.size + 2; omega) _).setCell (by show w.heap.size ≤ w.heap.size + 2; omega) _⟩

theorem padd_bad (a b c d : Int) (ha : I64 a) (hb : I64 b) (hc : I64 c) (hd : I64 d) (h : goodB a b = false ∨ goodB c d = false) (w : World) :
    Calls Tryd.prog 23 #[.agg #[.int .i64 a, .int .i64 b], .agg #[.int .i64 c, .int .i64 d]] w fun e w' => e = .returned (.tuple #[.agg #[.int .i64 0, .int .i64 0], .bool false]) ∧ Below w.heap.size w w' := by
  have G1 := good_any a b ha hb
  have G2 := good_any c d hc hd
  by_cases h1 : goodB a b = true
  · have h2 : goodB c d = false := by rcases h with h | h; rw [h1] at h; cases h; exact h
    rw [h1] at G1
    rw [h2] at G2
    clear h h1 h2
    go_enter Tryd.func23, Tryd.ntmps23
    go_wp2_with fail
    with_reducible refine (G1 _).mono ?_
    rintro e w1 ⟨rfl, b1⟩
    have D1 := (duo_new w a b c d 23).next b1
    have B1 : Below w.heap.size w w1 := on (three_new w _ _ _) b1
    have H1 := Lib.hid D1
    clear b1
    obtain ⟨⟨a0, a1, a2, a3, a4⟩, ⟨c0, c1, c2, c3, c4⟩, ⟨r0, r1, r2, r3, r4⟩⟩ := D1
    go_wp2_with fail
    with_reducible refine (G2 _).mono ?_
    rintro e w2 ⟨rfl, b2⟩
    have B2 := on B1 b2
    have D2 := H1.out.next b2
    clear b2 H1 B1 a0 a1 a2 a3 a4 c0 c1 c2 c3 c4 r0 r1 r2 r3 r4
    obtain ⟨⟨a0, a1, a2, a3, a4⟩, ⟨c0, c1, c2, c3, c4⟩, ⟨r0, r1, r2, r3, r4⟩⟩ := D2
    go_wp2
    exact bodyPost_ret (v := .tuple #[.agg #[.int .i64 0, .int .i64 0], .bool false]) (by simp [results, Tryd.results23, go_sem, r0, r1]) rfl ⟨rfl, (B2.setCell (by show w.heap.size ≤ w.heap.size + 2; omega) _).setCell (by show w.heap.size ≤ w.heap.size + 2; omega) _⟩
  · have h1' : goodB a b = false := by simpa using h1
    rw [h1'] at G1
    clear h h1 h1'
    go_enter Tryd.func23, Tryd.ntmps23
    go_wp2_with fail
    with_reducible refine (G1 _).mono ?_
    rintro e w1 ⟨rfl, b1⟩
    have D1 := (duo_new w a b c d 23).next b1
    have B1 : Below w.heap.size w w1 := on (three_new w _ _ _) b1
    clear b1
    obtain ⟨⟨a0, a1, a2, a3, a4⟩, ⟨c0, c1, c2, c3, c4⟩, ⟨r0, r1, r2, r3, r4⟩⟩ := D1
    go_wp2
    exact bodyPost_ret (v := .tuple #[.agg #[.int .i64 0, .int .i64 0], .bool false]) (by simp [results, Tryd.results23, go_sem, r0, r1]) rfl ⟨rfl, (B1.setCell (by show w.heap.size ≤ w.heap.size + 2; omega) _).setCell (by show w.heap.size ≤ w.heap.size + 2; omega) _⟩

theorem pmul_bad (a b c d : Int) (ha : I64 a) (hb : I64 b) (hc : I64 c) (hd : I64 d) (h : goodB a b = false ∨ goodB c d = false) (w : World) :
    Calls Tryd.prog 25 #[.agg #[.int .i64 a, .int .i64 b], .agg #[.int .i64 c, .int .i64 d]] w fun e w' => e = .returned (.tuple #[.agg #[.int .i64 0, .int .i64 0], .bool false]) ∧ Below w.heap.size w w' := by
  have G1 := good_any a b ha hb
  have G2 := good_any c d hc hd
  by_cases h1 : goodB a b = true
  · have h2 : goodB c d = false := by rcases h with h | h; rw [h1] at h; cases h; exact h
    rw [h1] at G1
    rw [h2] at G2
    clear h h1 h2
    go_enter Tryd.func25, Tryd.ntmps25
    go_wp2_with fail
    with_reducible refine (G1 _).mono ?_
    rintro e w1 ⟨rfl, b1⟩
    have D1 := (duo_new w a b c d 23).next b1
    have B1 : Below w.heap.size w w1 := on (three_new w _ _ _) b1
    have H1 := Lib.hid D1
    clear b1
    obtain ⟨⟨a0, a1, a2, a3, a4⟩, ⟨c0, c1, c2, c3, c4⟩, ⟨r0, r1, r2, r3, r4⟩⟩ := D1
    go_wp2_with fail
    with_reducible refine (G2 _).mono ?_
    rintro e w2 ⟨rfl, b2⟩
    have B2 := on B1 b2
    have D2 := H1.out.next b2
    clear b2 H1 B1 a0 a1 a2 a3 a4 c0 c1 c2 c3 c4 r0 r1 r2 r3 r4
    obtain ⟨⟨a0, a1, a2, a3, a4⟩, ⟨c0, c1, c2, c3, c4⟩, ⟨r0, r1, r2, r3, r4⟩⟩ := D2
    go_wp2
    exact bodyPost_ret (v := .tuple #[.agg #[.int .i64 0, .int .i64 0], .bool false]) (by simp [results, Tryd.results25, go_sem, r0, r1]) rfl ⟨rfl, (B2.setCell (by show w.heap.size ≤ w.heap.size + 2; omega) _).setCell (by show w.heap.size ≤ w.heap.size + 2; omega) _⟩
  · have h1' : goodB a b = false := by simpa using h1
    rw [h1'] at G1
    clear h h1 h1'
    go_enter Tryd.func25, Tryd.ntmps25
    go_wp2_with fail
    with_reducible refine (G1 _).mono ?_
    rintro e w1 ⟨rfl, b1⟩
    have D1 := (duo_new w a b c d 23).next b1
    have B1 : Below w.heap.size w w1 := on (three_new w _ _ _) b1
    clear b1
    obtain ⟨⟨a0, a1, a2, a3, a4⟩, ⟨c0, c1, c2, c3, c4⟩, ⟨r0, r1, r2, r3, r4⟩⟩ := D1
    go_wp2
    exact bodyPost_ret (v := .tuple #[.agg #[.int .i64 0, .int .i64 0], .bool false]) (by simp [results, Tryd.results25, go_sem, r0, r1]) rfl ⟨rfl, (B1.setCell (by show w.heap.size ≤ w.heap.size + 2; omega) _).setCell (by show w.heap.size ≤ w.heap.size + 2; omega) _⟩

theorem fit_of' {z : Int} (h : fitB z = true) : fit z = z := (fit_yes (fitB_iff.1 h)).1
theorem fit_in (z : Int) : I64 (fit z) := by
  unfold fit
  split
  · rename_i h; exact fitB_iff.1 h
  · unfold I64; omega

theorem padd_any (a b c d : Int) (ha : I64 a) (hb : I64 b) (hc : I64 c) (hd : I64 d) (w : World) :
    Calls Tryd.prog 23 #[.agg #[.int .i64 a, .int .i64 b], .agg #[.int .i64 c, .int .i64 d]] w fun e w' => e = .returned (.tuple #[.agg #[.int .i64 (smN a b c d), .int .i64 (smD a b c d)], .bool (smB a b c d)]) ∧ Below w.heap.size w w' := by
  by_cases h1 : goodB a b = true
  · by_cases h2 : goodB c d = true
    · obtain ⟨b0, _⟩ := good_out h1
      obtain ⟨d0, _⟩ := good_out h2
      have G1 := good_any a b ha hb
      have G2 := good_any c d hc hd
      rw [h1] at G1
      rw [h2] at G2
      have ip : I64 (b / (b.gcd d : Int)) := ndiv_in (by omega) hb
      have iq : I64 (d / (b.gcd d : Int)) := ddiv_in (by omega) hd
      have hgp : (0 : Int) < (b.gcd d : Int) := by have := gcd_pos (n := b) (d := d) (by omega); omega
      have R := padd_main a b c d (b / (b.gcd d : Int)) (d / (b.gcd d : Int)) (b.gcd d : Int) (fit (smX a b d)) (fit (smY b c d)) (fit (fit (smX a b d) + fit (smY b c d))) (fit (smM b d))
        (fitB (smX a b d)) (fitB (smY b c d)) (fitB (fit (smX a b d) + fit (smY b c d))) (fitB (smM b d)) G1 G2 (common_any b d hb hd d0) hgp (tdiv_gcd_left b d) (tdiv_gcd_right b d) ip iq
        (mul_any a _ ha iq) (mul_any c _ hc ip) (add_any _ _ (fit_in _) (fit_in _)) (mul_any b _ hb iq)
        (fun hk => by
          simp only [Bool.and_eq_true] at hk
          refine lowest_any _ _ (fit_in _) (fit_in _) ?_
          rw [fit_of' hk.2]
          have := smM_pos b0 d0
          omega) w
      by_cases hxy : fitB (smX a b d) = true ∧ fitB (smY b c d) = true
      · rw [fit_of' hxy.1, fit_of' hxy.2] at R
        have hok : (fitB (smX a b d) && fitB (smY b c d) && fitB (smX a b d + smY b c d) && fitB (smM b d)) = smOk a b c d := by
          unfold smOk; rw [h1, h2]; simp
        rw [hok] at R
        by_cases hk : smOk a b c d = true
        · obtain ⟨e1, e2, e3⟩ := sm_yes hk
          have f3 : fitB (smX a b d + smY b c d) = true ∧ fitB (smM b d) = true := by
            unfold smOk at hk; simp only [Bool.and_eq_true] at hk; exact ⟨hk.2.1.2, hk.2.2⟩
          rw [fit_of' f3.1, fit_of' f3.2, hk] at R
          rw [e1, e2, e3]
          simpa using R
        · have hk' : smOk a b c d = false := by simpa using hk
          obtain ⟨e1, e2, e3⟩ := sm_no hk'
          rw [hk'] at R
          rw [e1, e2, e3]
          simpa using R
      · have hk' : smOk a b c d = false := by
          unfold smOk
          by_cases hx : fitB (smX a b d) = true
          · have hy : fitB (smY b c d) = false := by simpa using fun hy => hxy ⟨hx, hy⟩
            rw [hy]; simp
          · have hx' : fitB (smX a b d) = false := by simpa using hx
            rw [hx']; simp
        have hz : (fitB (smX a b d) && fitB (smY b c d)) = false := by
          cases hx : fitB (smX a b d)
          · simp
          · cases hy : fitB (smY b c d)
            · simp
            · exact absurd ⟨hx, hy⟩ hxy
        obtain ⟨e1, e2, e3⟩ := sm_no hk'
        rw [hz] at R
        rw [e1, e2, e3]
        simpa using R
    · have h2' : goodB c d = false := by simpa using h2
      obtain ⟨e1, e2, e3⟩ := sm_no (smOk_bad2 (a := a) (b := b) h2')
      rw [e1, e2, e3]
      exact padd_bad a b c d ha hb hc hd (Or.inr h2') w
  · have h1' : goodB a b = false := by simpa using h1
    obtain ⟨e1, e2, e3⟩ := sm_no (smOk_bad1 (c := c) (d := d) h1')
    rw [e1, e2, e3]
    exact padd_bad a b c d ha hb hc hd (Or.inl h1') w

theorem pmul_any (a b c d : Int) (ha : I64 a) (hb : I64 b) (hc : I64 c) (hd : I64 d) (w : World) :
    Calls Tryd.prog 25 #[.agg #[.int .i64 a, .int .i64 b], .agg #[.int .i64 c, .int .i64 d]] w fun e w' => e = .returned (.tuple #[.agg #[.int .i64 (pdN a b c d), .int .i64 (pdD a b c d)], .bool (pdOk a b c d)]) ∧ Below w.heap.size w w' := by
  by_cases h1 : goodB a b = true
  · by_cases h2 : goodB c d = true
    · obtain ⟨b0, _⟩ := good_out h1
      obtain ⟨d0, _⟩ := good_out h2
      have G1 := good_any a b ha hb
      have G2 := good_any c d hc hd
      rw [h1] at G1
      rw [h2] at G2
      have ip : I64 (a / (a.gcd d : Int)) := ndiv_in (by omega) ha
      have iq : I64 (b / (c.gcd b : Int)) := ddiv_in (by omega) hb
      have ir : I64 (c / (c.gcd b : Int)) := ndiv_in (by omega) hc
      have is : I64 (d / (a.gcd d : Int)) := ddiv_in (by omega) hd
      have R := pmul_main a b c d _ _ _ _ (a.gcd d : Int) (c.gcd b : Int) (fit (prNum a b c d)) (fit (prDen a b c d)) (fitB (prNum a b c d)) (fitB (prDen a b c d)) G1 G2
        (common_any a d ha hd d0) (by have := gcd_pos (n := a) (d := d) (by omega); omega) (common_any c b hc hb b0) (by have := gcd_pos (n := c) (d := b) (by omega); omega)
        (tdiv_gcd_left a d) (tdiv_gcd_right c b) (tdiv_gcd_left c b) (tdiv_gcd_right a d) ip iq ir is (mul_any _ _ ip ir) (mul_any _ _ iq is) w
      have hok : (fitB (prNum a b c d) && fitB (prDen a b c d)) = pdOk a b c d := by unfold pdOk; rw [h1, h2]; simp
      rw [hok] at R
      by_cases hk : pdOk a b c d = true
      · obtain ⟨e1, e2⟩ := pd_yes hk
        have f3 : fitB (prNum a b c d) = true ∧ fitB (prDen a b c d) = true := by
          unfold pdOk at hk; simp only [Bool.and_eq_true] at hk; exact ⟨hk.2.1, hk.2.2⟩
        rw [fit_of' f3.1, fit_of' f3.2, hk] at R
        rw [e1, e2, hk]
        simpa using R
      · have hk' : pdOk a b c d = false := by simpa using hk
        obtain ⟨e1, e2⟩ := pd_no hk'
        rw [hk'] at R
        rw [e1, e2, hk']
        simpa using R
    · have h2' : goodB c d = false := by simpa using h2
      have hk := pdOk_bad2 (a := a) (b := b) h2'
      obtain ⟨e1, e2⟩ := pd_no hk
      rw [e1, e2, hk]
      exact pmul_bad a b c d ha hb hc hd (Or.inr h2') w
  · have h1' : goodB a b = false := by simpa using h1
    have hk := pdOk_bad1 (c := c) (d := d) h1'
    obtain ⟨e1, e2⟩ := pd_no hk
    rw [e1, e2, hk]
    exact pmul_bad a b c d ha hb hc hd (Or.inl h1') w
end Go.Proofs.YtjaabjehegcnaaaDoor
