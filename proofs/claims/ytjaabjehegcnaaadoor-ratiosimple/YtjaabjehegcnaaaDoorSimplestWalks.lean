/-
  What package ratio's Simplest does.
-/
import Derived.Test.YtjaabjehegcnaaaDoorBetweenWalks
namespace Go.Proofs.YtjaabjehegcnaaaDoor
set_option maxRecDepth 100000
open Go.RowKit

/-- What Simplest answers. -/
def smpV (a b c d : Int) : Value := .tuple #[.agg #[.int .i64 (smpN a b c d), .int .i64 (smpD a b c d)], .bool (smpB a b c d)]
theorem smpV_no {a b c d : Int} (h : smpB a b c d = false) : smpV a b c d = .tuple #[.agg #[.int .i64 0, .int .i64 0], .bool false] := by
  unfold smpV; rw [(smp_no h).1, (smp_no h).2, h]
theorem smpV_yes {a b c d n m : Int} (h : smpB a b c d = true) (h1 : smpN a b c d = n) (h2 : smpD a b c d = m) : smpV a b c d = .tuple #[.agg #[.int .i64 n, .int .i64 m], .bool true] := by
  unfold smpV; rw [h1, h2, h]

set_option maxHeartbeats 2000000 in
theorem simp_none (a b c d : Int) (x y : Bool) (v : Int) (G1 : ∀ w, Calls Tryd.prog 14 #[.agg #[.int .i64 a, .int .i64 b]] w fun e w' => e = .returned (.bool x) ∧ Below w.heap.size w w') (G2 : ∀ w, Calls Tryd.prog 14 #[.agg #[.int .i64 c, .int .i64 d]] w fun e w' => e = .returned (.bool y) ∧ Below w.heap.size w w')
    (C : ∀ w, Calls Tryd.prog 18 #[.agg #[.int .i64 a, .int .i64 b], .agg #[.int .i64 c, .int .i64 d]] w fun e w' => e = .returned (.int .i64 v) ∧ Below w.heap.size w w') (h : x = false ∨ y = false ∨ 0 < v) (w : World) :
    Calls Tryd.prog 35 #[.agg #[.int .i64 a, .int .i64 b], .agg #[.int .i64 c, .int .i64 d]] w fun e w' => e = .returned (.tuple #[.agg #[.int .i64 0, .int .i64 0], .bool false]) ∧ Below w.heap.size w w' := by
  cases x
  · clear h
    go_enter Tryd.func35, Tryd.ntmps35
    go_wp2_with fail
    with_reducible refine (G1 _).mono ?_
    rintro e w1 ⟨rfl, b1⟩
    have D1 := (duo_new w a b c d 23).next b1
    have B1 : Below w.heap.size w w1 := on (three_new w _ _ _) b1
    clear b1
    obtain ⟨⟨a0, a1, a2, a3, a4⟩, ⟨c0, c1, c2, c3, c4⟩, ⟨r0, r1, r2, r3, r4⟩⟩ := D1
    go_wp2
    exact bodyPost_ret (v := .tuple #[.agg #[.int .i64 0, .int .i64 0], .bool false]) (by simp [results, Tryd.results35, go_sem, r0, r1]) rfl ⟨rfl, (B1.setCell (by show w.heap.size ≤ w.heap.size + 2; omega) _).setCell (by show w.heap.size ≤ w.heap.size + 2; omega) _⟩
  · cases y
    · clear h
      go_enter Tryd.func35, Tryd.ntmps35
      go_wp2_with fail
      with_reducible refine (G1 _).mono ?_
      rintro e w1 ⟨rfl, b1⟩
      have D1 := (duo_new w a b c d 23).next b1
      have B1 : Below w.heap.size w w1 := on (three_new w _ _ _) b1
      have H1 := Lib.hid D1
      clear b1
      obtain ⟨⟨a0, a1, a2, a3, a4⟩, ⟨c0, c1, c2, c3, c4⟩, ⟨r0, r1, r2, r3, r4⟩⟩ := D1
      go_wp2_with fail
      with_reducible refine (G2 _).mono ?_
      rintro e w2 ⟨rfl, b2⟩
      have D2 := H1.out.next b2
      have B2 := on B1 b2
      clear b2 B1 H1 a0 a1 a2 a3 a4 c0 c1 c2 c3 c4 r0 r1 r2 r3 r4
      obtain ⟨⟨a0, a1, a2, a3, a4⟩, ⟨c0, c1, c2, c3, c4⟩, ⟨r0, r1, r2, r3, r4⟩⟩ := D2
      go_wp2
      exact bodyPost_ret (v := .tuple #[.agg #[.int .i64 0, .int .i64 0], .bool false]) (by simp [results, Tryd.results35, go_sem, r0, r1]) rfl ⟨rfl, (B2.setCell (by show w.heap.size ≤ w.heap.size + 2; omega) _).setCell (by show w.heap.size ≤ w.heap.size + 2; omega) _⟩
    · have hv : 0 < v := by rcases h with h | h | h <;> first | cases h | exact h
      clear h
      go_enter Tryd.func35, Tryd.ntmps35
      go_wp2_with fail
      with_reducible refine (G1 _).mono ?_
      rintro e w1 ⟨rfl, b1⟩
      have D1 := (duo_new w a b c d 23).next b1
      have B1 : Below w.heap.size w w1 := on (three_new w _ _ _) b1
      have H1 := Lib.hid D1
      clear b1
      obtain ⟨⟨a0, a1, a2, a3, a4⟩, ⟨c0, c1, c2, c3, c4⟩, ⟨r0, r1, r2, r3, r4⟩⟩ := D1
      go_wp2_with fail
      with_reducible refine (G2 _).mono ?_
      rintro e w2 ⟨rfl, b2⟩
      have D2 := H1.out.next b2
      have B2 := on B1 b2
      have H2 := Lib.hid D2
      clear b2 B1 H1 a0 a1 a2 a3 a4 c0 c1 c2 c3 c4 r0 r1 r2 r3 r4
      obtain ⟨⟨a0, a1, a2, a3, a4⟩, ⟨c0, c1, c2, c3, c4⟩, ⟨r0, r1, r2, r3, r4⟩⟩ := D2
      go_wp2_with fail
      with_reducible refine (C _).mono ?_
      rintro e w3 ⟨rfl, b3⟩
      have D3 := H2.out.next b3
      have B3 := on B2 b3
      clear b3 B2 H2 a0 a1 a2 a3 a4 c0 c1 c2 c3 c4 r0 r1 r2 r3 r4
      obtain ⟨⟨a0, a1, a2, a3, a4⟩, ⟨c0, c1, c2, c3, c4⟩, ⟨r0, r1, r2, r3, r4⟩⟩ := D3
      go_wp2
      exact bodyPost_ret (v := .tuple #[.agg #[.int .i64 0, .int .i64 0], .bool false]) (by simp [results, Tryd.results35, go_sem, r0, r1]) rfl ⟨rfl, (B3.setCell (by show w.heap.size ≤ w.heap.size + 2; omega) _).setCell (by show w.heap.size ≤ w.heap.size + 2; omega) _⟩
/-! ### the answers -/
set_option maxHeartbeats 2000000 in
theorem simp_up (a b c d v n m : Int) (G1 : ∀ w, Calls Tryd.prog 14 #[.agg #[.int .i64 a, .int .i64 b]] w fun e w' => e = .returned (.bool true) ∧ Below w.heap.size w w') (G2 : ∀ w, Calls Tryd.prog 14 #[.agg #[.int .i64 c, .int .i64 d]] w fun e w' => e = .returned (.bool true) ∧ Below w.heap.size w w')
    (C : ∀ w, Calls Tryd.prog 18 #[.agg #[.int .i64 a, .int .i64 b], .agg #[.int .i64 c, .int .i64 d]] w fun e w' => e = .returned (.int .i64 v) ∧ Below w.heap.size w w') (v0 : v ≤ 0) (ha : 0 < a)
    (BT : ∀ w, Calls Tryd.prog 59 #[.agg #[.int .i64 a, .int .i64 b], .agg #[.int .i64 c, .int .i64 d]] w fun e w' => e = .returned (.agg #[.int .i64 n, .int .i64 m]) ∧ Below w.heap.size w w') (w : World) :
    Calls Tryd.prog 35 #[.agg #[.int .i64 a, .int .i64 b], .agg #[.int .i64 c, .int .i64 d]] w fun e w' => e = .returned (.tuple #[.agg #[.int .i64 n, .int .i64 m], .bool true]) ∧ Below w.heap.size w w' := by
  have v0' : decide (0 < v) = false := by simp; omega
  go_enter Tryd.func35, Tryd.ntmps35
  go_wp2_with fail
  with_reducible refine (G1 _).mono ?_
  rintro e w1 ⟨rfl, b1⟩
  have D1 := (duo_new w a b c d 23).next b1
  have B1 : Below w.heap.size w w1 := on (three_new w _ _ _) b1
  have H1 := Lib.hid D1
  clear b1
  obtain ⟨⟨a0, a1, a2, a3, a4⟩, ⟨c0, c1, c2, c3, c4⟩, ⟨r0, r1, r2, r3, r4⟩⟩ := D1
  go_wp2_with fail
  with_reducible refine (G2 _).mono ?_
  rintro e w2 ⟨rfl, b2⟩
  have D2 := H1.out.next b2
  have B2 := on B1 b2
  have H2 := Lib.hid D2
  clear b2 B1 H1 a0 a1 a2 a3 a4 c0 c1 c2 c3 c4 r0 r1 r2 r3 r4
  obtain ⟨⟨a0, a1, a2, a3, a4⟩, ⟨c0, c1, c2, c3, c4⟩, ⟨r0, r1, r2, r3, r4⟩⟩ := D2
  go_wp2_with fail
  with_reducible refine (C _).mono ?_
  rintro e w3 ⟨rfl, b3⟩
  have D3 := H2.out.next b3
  have B3 := on B2 b3
  have H3 := Lib.hid D3
  clear b3 B2 H2 a0 a1 a2 a3 a4 c0 c1 c2 c3 c4 r0 r1 r2 r3 r4
  obtain ⟨⟨a0, a1, a2, a3, a4⟩, ⟨c0, c1, c2, c3, c4⟩, ⟨r0, r1, r2, r3, r4⟩⟩ := D3
  go_wp2_with fail
  with_reducible refine (BT _).mono ?_
  rintro e w4 ⟨rfl, b4⟩
  have D4 := H3.out.next b4
  have B4 := on B3 b4
  clear b4 B3 H3 a0 a1 a2 a3 a4 c0 c1 c2 c3 c4 r0 r1 r2 r3 r4
  obtain ⟨⟨a0, a1, a2, a3, a4⟩, ⟨c0, c1, c2, c3, c4⟩, ⟨r0, r1, r2, r3, r4⟩⟩ := D4
  go_wp2
  exact bodyPost_ret (v := .tuple #[.agg #[.int .i64 n, .int .i64 m], .bool true]) (by simp [results, Tryd.results35, go_sem, r0, r1]) rfl ⟨rfl, (B4.setCell (by show w.heap.size ≤ w.heap.size + 2; omega) _).setCell (by show w.heap.size ≤ w.heap.size + 2; omega) _⟩

set_option maxHeartbeats 2000000 in
theorem simp_mid (a b c d v : Int) (G1 : ∀ w, Calls Tryd.prog 14 #[.agg #[.int .i64 a, .int .i64 b]] w fun e w' => e = .returned (.bool true) ∧ Below w.heap.size w w') (G2 : ∀ w, Calls Tryd.prog 14 #[.agg #[.int .i64 c, .int .i64 d]] w fun e w' => e = .returned (.bool true) ∧ Below w.heap.size w w')
    (C : ∀ w, Calls Tryd.prog 18 #[.agg #[.int .i64 a, .int .i64 b], .agg #[.int .i64 c, .int .i64 d]] w fun e w' => e = .returned (.int .i64 v) ∧ Below w.heap.size w w') (v0 : v ≤ 0) (ha : a ≤ 0) (hc : 0 ≤ c) (w : World) :
    Calls Tryd.prog 35 #[.agg #[.int .i64 a, .int .i64 b], .agg #[.int .i64 c, .int .i64 d]] w fun e w' => e = .returned (.tuple #[.agg #[.int .i64 0, .int .i64 1], .bool true]) ∧ Below w.heap.size w w' := by
  have ha' : decide (0 < a) = false := by simp; omega
  have v0' : decide (0 < v) = false := by simp; omega
  go_enter Tryd.func35, Tryd.ntmps35
  go_wp2_with fail
  with_reducible refine (G1 _).mono ?_
  rintro e w1 ⟨rfl, b1⟩
  have D1 := (duo_new w a b c d 23).next b1
  have B1 : Below w.heap.size w w1 := on (three_new w _ _ _) b1
  have H1 := Lib.hid D1
  clear b1
  obtain ⟨⟨a0, a1, a2, a3, a4⟩, ⟨c0, c1, c2, c3, c4⟩, ⟨r0, r1, r2, r3, r4⟩⟩ := D1
  go_wp2_with fail
  with_reducible refine (G2 _).mono ?_
  rintro e w2 ⟨rfl, b2⟩
  have D2 := H1.out.next b2
  have B2 := on B1 b2
  have H2 := Lib.hid D2
  clear b2 B1 H1 a0 a1 a2 a3 a4 c0 c1 c2 c3 c4 r0 r1 r2 r3 r4
  obtain ⟨⟨a0, a1, a2, a3, a4⟩, ⟨c0, c1, c2, c3, c4⟩, ⟨r0, r1, r2, r3, r4⟩⟩ := D2
  go_wp2_with fail
  with_reducible refine (C _).mono ?_
  rintro e w3 ⟨rfl, b3⟩
  have D3 := H2.out.next b3
  have B3 := on B2 b3
  have H3 := Lib.hid D3
  clear b3 B2 H2 a0 a1 a2 a3 a4 c0 c1 c2 c3 c4 r0 r1 r2 r3 r4
  obtain ⟨⟨a0, a1, a2, a3, a4⟩, ⟨c0, c1, c2, c3, c4⟩, ⟨r0, r1, r2, r3, r4⟩⟩ := D3
  go_wp2_with fail
  with_reducible refine (of_ratio 0 _).mono ?_
  rintro e w4 ⟨rfl, b4⟩
  have D4 := H3.out.next b4
  have B4 := on B3 b4
  clear b4 B3 H3 a0 a1 a2 a3 a4 c0 c1 c2 c3 c4 r0 r1 r2 r3 r4
  obtain ⟨⟨a0, a1, a2, a3, a4⟩, ⟨c0, c1, c2, c3, c4⟩, ⟨r0, r1, r2, r3, r4⟩⟩ := D4
  go_wp2
  exact bodyPost_ret (v := .tuple #[.agg #[.int .i64 0, .int .i64 1], .bool true]) (by simp [results, Tryd.results35, go_sem, r0, r1]) rfl ⟨rfl, (B4.setCell (by show w.heap.size ≤ w.heap.size + 2; omega) _).setCell (by show w.heap.size ≤ w.heap.size + 2; omega) _⟩

set_option maxHeartbeats 2000000 in
theorem simp_down (a b c d v n m x y x' y' : Int) (f g : Bool) (G1 : ∀ w, Calls Tryd.prog 14 #[.agg #[.int .i64 a, .int .i64 b]] w fun e w' => e = .returned (.bool true) ∧ Below w.heap.size w w') (G2 : ∀ w, Calls Tryd.prog 14 #[.agg #[.int .i64 c, .int .i64 d]] w fun e w' => e = .returned (.bool true) ∧ Below w.heap.size w w')
    (C : ∀ w, Calls Tryd.prog 18 #[.agg #[.int .i64 a, .int .i64 b], .agg #[.int .i64 c, .int .i64 d]] w fun e w' => e = .returned (.int .i64 v) ∧ Below w.heap.size w w') (v0 : v ≤ 0) (ha : a ≤ 0) (hc : c < 0)
    (O1 : ∀ w, Calls Tryd.prog 58 #[.agg #[.int .i64 c, .int .i64 d]] w fun e w' => e = .returned (.tuple #[.agg #[.int .i64 x, .int .i64 y], .bool f]) ∧ Below w.heap.size w w')
    (O2 : ∀ w, Calls Tryd.prog 58 #[.agg #[.int .i64 a, .int .i64 b]] w fun e w' => e = .returned (.tuple #[.agg #[.int .i64 x', .int .i64 y'], .bool g]) ∧ Below w.heap.size w w')
    (BT : (f && g) = true → ∀ w, Calls Tryd.prog 59 #[.agg #[.int .i64 x, .int .i64 y], .agg #[.int .i64 x', .int .i64 y']] w fun e w' => e = .returned (.agg #[.int .i64 n, .int .i64 m]) ∧ Below w.heap.size w w')
    (O3 : (f && g) = true → ∀ w, Calls Tryd.prog 58 #[.agg #[.int .i64 n, .int .i64 m]] w fun e w' => e = .returned (.tuple #[.agg #[.int .i64 (-n), .int .i64 m], .bool true]) ∧ Below w.heap.size w w') (w : World) :
    Calls Tryd.prog 35 #[.agg #[.int .i64 a, .int .i64 b], .agg #[.int .i64 c, .int .i64 d]] w fun e w' => e = .returned (.tuple #[.agg #[.int .i64 (if (f && g) = true then -n else 0), .int .i64 (if (f && g) = true then m else 0)], .bool (f && g)]) ∧ Below w.heap.size w w' := by
  have ha' : decide (0 < a) = false := by simp; omega
  have hc' : decide (0 ≤ c) = false := by simp; omega
  have HBT := Lib.hid BT
  have HO3 := Lib.hid O3
  clear BT O3
  have v0' : decide (0 < v) = false := by simp; omega
  go_enter Tryd.func35, Tryd.ntmps35
  go_wp2_with fail
  with_reducible refine (G1 _).mono ?_
  rintro e w1 ⟨rfl, b1⟩
  have D1 := (duo_new w a b c d 23).next b1
  have B1 : Below w.heap.size w w1 := on (three_new w _ _ _) b1
  have H1 := Lib.hid D1
  clear b1
  obtain ⟨⟨a0, a1, a2, a3, a4⟩, ⟨c0, c1, c2, c3, c4⟩, ⟨r0, r1, r2, r3, r4⟩⟩ := D1
  go_wp2_with fail
  with_reducible refine (G2 _).mono ?_
  rintro e w2 ⟨rfl, b2⟩
  have D2 := H1.out.next b2
  have B2 := on B1 b2
  have H2 := Lib.hid D2
  clear b2 B1 H1 a0 a1 a2 a3 a4 c0 c1 c2 c3 c4 r0 r1 r2 r3 r4
  obtain ⟨⟨a0, a1, a2, a3, a4⟩, ⟨c0, c1, c2, c3, c4⟩, ⟨r0, r1, r2, r3, r4⟩⟩ := D2
  go_wp2_with fail
  with_reducible refine (C _).mono ?_
  rintro e w3 ⟨rfl, b3⟩
  have D3 := H2.out.next b3
  have B3 := on B2 b3
  have H3 := Lib.hid D3
  clear b3 B2 H2 a0 a1 a2 a3 a4 c0 c1 c2 c3 c4 r0 r1 r2 r3 r4
  obtain ⟨⟨a0, a1, a2, a3, a4⟩, ⟨c0, c1, c2, c3, c4⟩, ⟨r0, r1, r2, r3, r4⟩⟩ := D3
  go_wp2_with fail
  with_reducible refine (O1 _).mono ?_
  rintro e w4 ⟨rfl, b4⟩
  have D4 := H3.out.next b4
  have o4 := new_below w4 (.cells #[.int .i64 x, .int .i64 y] 23)
  have B4 := on (on B3 b4) o4
  have H4 := Lib.hid (D4.next o4)
  have L4 := Lib.hid (rbox_new w4 x y 23)
  clear b4 B3 H3 a0 a1 a2 a3 a4 c0 c1 c2 c3 c4 r0 r1 r2 r3 r4 o4
  obtain ⟨⟨a0, a1, a2, a3, a4⟩, ⟨c0, c1, c2, c3, c4⟩, ⟨r0, r1, r2, r3, r4⟩⟩ := D4
  go_wp2_with fail
  with_reducible refine (O2 _).mono ?_
  rintro e w5 ⟨rfl, b5⟩
  have D5 := H4.out.next b5
  have K5 := L4.out.next b5
  have o5 := new_below w5 (.cells #[.int .i64 x', .int .i64 y'] 23)
  have B5a := Lib.hid (on B4 b5)
  have B5 := on (on B4 b5) o5
  have H5 := Lib.hid (D5.next o5)
  clear b5 B4 H4 L4 a0 a1 a2 a3 a4 c0 c1 c2 c3 c4 r0 r1 r2 r3 r4 o5
  obtain ⟨⟨a0, a1, a2, a3, a4⟩, ⟨c0, c1, c2, c3, c4⟩, ⟨r0, r1, r2, r3, r4⟩⟩ := D5
  obtain ⟨l0, l1, l2, l3, l4⟩ := K5
  cases f <;> cases g
  case true.true =>
    have BT := HBT.out rfl
    have O3 := HO3.out rfl
    clear HBT HO3
    go_wp2_with fail
    with_reducible refine (BT _).mono ?_
    rintro e w6 ⟨rfl, b6⟩
    have D6 := H5.out.next b6
    have B6 := on B5 b6
    have H6 := Lib.hid D6
    clear b6 B5 H5 a0 a1 a2 a3 a4 c0 c1 c2 c3 c4 r0 r1 r2 r3 r4 l0 l1 l2 l3 l4
    obtain ⟨⟨a0, a1, a2, a3, a4⟩, ⟨c0, c1, c2, c3, c4⟩, ⟨r0, r1, r2, r3, r4⟩⟩ := D6
    go_wp2_with fail
    with_reducible refine (O3 _).mono ?_
    rintro e w7 ⟨rfl, b7⟩
    have D7 := H6.out.next b7
    have B7 := on B6 b7
    clear b7 B6 H6 a0 a1 a2 a3 a4 c0 c1 c2 c3 c4 r0 r1 r2 r3 r4
    obtain ⟨⟨a0, a1, a2, a3, a4⟩, ⟨c0, c1, c2, c3, c4⟩, ⟨r0, r1, r2, r3, r4⟩⟩ := D7
    go_wp2
    exact bodyPost_ret (v := .tuple #[.agg #[.int .i64 (-n), .int .i64 m], .bool true]) (by simp [results, Tryd.results35, go_sem, r0, r1]) rfl ⟨by simp, (B7.setCell (by show w.heap.size ≤ w.heap.size + 2; omega) _).setCell (by show w.heap.size ≤ w.heap.size + 2; omega) _⟩
  all_goals
    clear HBT HO3
    go_wp2
    exact bodyPost_ret (v := .tuple #[.agg #[.int .i64 0, .int .i64 0], .bool false]) (by simp [results, Tryd.results35, go_sem, r0, r1, r4]) rfl ⟨by simp, ((B5a.out.setCell (by show w.heap.size ≤ w.heap.size + 2; omega) _).setCell (by show w.heap.size ≤ w.heap.size + 2; omega) _).alloc (by have := B5a.out.size; simp [World.setCell]; omega) _⟩

theorem simplest_any (a b c d : Int) (ha : I64 a) (hb : I64 b) (hc : I64 c) (hd : I64 d) (w : World) :
    Calls Tryd.prog 35 #[.agg #[.int .i64 a, .int .i64 b], .agg #[.int .i64 c, .int .i64 d]] w fun e w' => e = .returned (smpV a b c d) ∧ Below w.heap.size w w' := by
  have G1 := good_any a b ha hb
  have G2 := good_any c d hc hd
  have C := rcmpP a b c d ha hb hc hd
  by_cases hk : goodB a b = true ∧ goodB c d = true ∧ rcm a b c d ≤ 0
  · obtain ⟨h1, h2, h3⟩ := hk
    rw [h1] at G1
    rw [h2] at G2
    have k3 : decide (rcm a b c d ≤ 0) = true := by simpa using h3
    by_cases hu : 0 < a
    · have hf := fits_up h1 h2 h3 hu
      have hB : smpB a b c d = true := by unfold smpB; rw [h1, h2, k3]; simp [hu]
      rw [smpV_yes hB (show smpN a b c d = (btw (fuelOf b d) a b c d).1 by unfold smpN; rw [if_pos hB, if_pos hu]) (show smpD a b c d = (btw (fuelOf b d) a b c d).2 by unfold smpD; rw [if_pos hB, if_pos hu])]
      exact simp_up a b c d _ _ _ G1 G2 C h3 hu (between_any (fuelOf b d) a b c d hf (fuel_ok b d) ha hb hc hd) w
    · by_cases hm : 0 ≤ c
      · have hB : smpB a b c d = true := by unfold smpB; rw [h1, h2, k3]; simp [hm]
        rw [smpV_yes hB (show smpN a b c d = 0 by unfold smpN; rw [if_pos hB, if_neg hu, if_pos hm]) (show smpD a b c d = 1 by unfold smpD; rw [if_pos hB, if_neg hu, if_pos hm])]
        exact simp_mid a b c d _ G1 G2 C h3 (by omega) hm w
      · have hf := fits_down h1 h2 h3 (by omega)
        have hBe : smpB a b c d = (fitB (-c) && fitB (-a)) := by
          unfold smpB; rw [h1, h2, k3]
          have e1 : decide (0 < a) = false := by simp; omega
          have e2 : decide (0 ≤ c) = false := by simp; omega
          rw [e1, e2]; simp [Bool.and_comm]
        have A1 : ∃ x y, (∀ w, Calls Tryd.prog 58 #[.agg #[.int .i64 c, .int .i64 d]] w fun e w' => e = .returned (.tuple #[.agg #[.int .i64 x, .int .i64 y], .bool (fitB (-c))]) ∧ Below w.heap.size w w') ∧ (fitB (-c) = true → x = -c ∧ y = d) := by
          by_cases hh : I64 (-c)
          · exact ⟨-c, d, by rw [fitB_iff.2 hh]; exact opp_yes c d hc hh, fun _ => ⟨rfl, rfl⟩⟩
          · exact ⟨0, 0, by rw [fitB_no.2 hh]; exact opp_no c d hc hh, fun h => by rw [fitB_no.2 hh] at h; cases h⟩
        have A2 : ∃ x y, (∀ w, Calls Tryd.prog 58 #[.agg #[.int .i64 a, .int .i64 b]] w fun e w' => e = .returned (.tuple #[.agg #[.int .i64 x, .int .i64 y], .bool (fitB (-a))]) ∧ Below w.heap.size w w') ∧ (fitB (-a) = true → x = -a ∧ y = b) := by
          by_cases hh : I64 (-a)
          · exact ⟨-a, b, by rw [fitB_iff.2 hh]; exact opp_yes a b ha hh, fun _ => ⟨rfl, rfl⟩⟩
          · exact ⟨0, 0, by rw [fitB_no.2 hh]; exact opp_no a b ha hh, fun h => by rw [fitB_no.2 hh] at h; cases h⟩
        obtain ⟨x, y, O1, q1⟩ := A1
        obtain ⟨x', y', O2, q2⟩ := A2
        have R := simp_down a b c d _ (btw (fuelOf d b) (-c) d (-a) b).1 (btw (fuelOf d b) (-c) d (-a) b).2 x y x' y' _ _ G1 G2 C h3 (by omega) (by omega) O1 O2
          (fun hh => by
            simp only [Bool.and_eq_true] at hh
            obtain ⟨e1, e2⟩ := q1 hh.1
            obtain ⟨e3, e4⟩ := q2 hh.2
            rw [e1, e2, e3, e4]
            exact between_any (fuelOf d b) (-c) d (-a) b hf (fuel_ok d b) (fitB_iff.1 hh.1) hd (fitB_iff.1 hh.2) hb)
          (fun hh => by
            simp only [Bool.and_eq_true] at hh
            obtain ⟨i1, i2, i3, i4⟩ := btw_in hf (fuel_ok d b) (fitB_iff.1 hh.1) hd
            have n0 := (btw_simple (fuelOf d b) (-c) d (-a) b hf (fuel_ok d b)).n0
            exact opp_yes _ _ i1 (by unfold I64 at *; omega)) w
        rw [← hBe] at R
        by_cases hB : smpB a b c d = true
        · rw [smpV_yes hB (show smpN a b c d = -(btw (fuelOf d b) (-c) d (-a) b).1 by unfold smpN; rw [if_pos hB, if_neg hu, if_neg hm]) (show smpD a b c d = (btw (fuelOf d b) (-c) d (-a) b).2 by unfold smpD; rw [if_pos hB, if_neg hu, if_neg hm])]
          rw [if_pos hB, if_pos hB, hB] at R
          exact R
        · have hB' : smpB a b c d = false := by simpa using hB
          rw [smpV_no hB']
          rw [if_neg hB, if_neg hB, hB'] at R
          exact R
  · have hB : smpB a b c d = false := by
      unfold smpB
      by_cases h1 : goodB a b = true
      · by_cases h2 : goodB c d = true
        · have h3 : decide (rcm a b c d ≤ 0) = false := by simpa using fun h3 => hk ⟨h1, h2, h3⟩
          rw [h3]; simp
        · rw [show goodB c d = false by simpa using h2]; simp
      · rw [show goodB a b = false by simpa using h1]; simp
    rw [smpV_no hB]
    refine simp_none a b c d _ _ _ G1 G2 C ?_ w
    by_cases h1 : goodB a b = true
    · by_cases h2 : goodB c d = true
      · exact Or.inr (Or.inr (Int.not_le.1 fun h3 => hk ⟨h1, h2, h3⟩))
      · exact Or.inr (Or.inl (by simpa using h2))
    · exact Or.inl (by simpa using h1)
end Go.Proofs.YtjaabjehegcnaaaDoor
