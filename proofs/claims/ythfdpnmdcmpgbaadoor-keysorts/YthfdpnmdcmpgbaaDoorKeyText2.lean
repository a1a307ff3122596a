/-
  What the document's Less and Text and the laws' wakes do (layer 4). Nothing that was in memory before turns.
-/
import Derived.Test.YthfdpnmdcmpgbaaDoorKeyText
namespace Go.Proofs.YthfdpnmdcmpgbaaDoor
set_option maxRecDepth 100000
open Go.RowKit Go.Sort

theorem txt_wakes : txtK 3 5 0 = ⟨#[51, 32, 53, 32, 48]⟩ := by decide +kernel
/-- The three keys of wakes. -/
structure K3 (w : World) (wr : World) : Prop where
  mk ::
  A : KBox w.heap.size 3 5 0 wr
  B : KBox (w.heap.size + 1) 3 4 0 wr
  C : KBox (w.heap.size + 1 + 1) 2 0 0 wr
  M : More w wr
  T : TabOk wr
theorem K3.next {w wr w' : World} (k : K3 w wr) (m : More wr w') : K3 w w' :=
  ⟨k.A.next m.below, k.B.next m.below, k.C.next m.below, k.M.trans m, k.T.below m.below⟩
theorem k3_new (w : World) (t : TypeId) (hT : TabOk w) : K3 w (((w.alloc (.cells #[.int .i64 3, .int .i64 5, .int .i64 0] t)).alloc (.cells #[.int .i64 3, .int .i64 4, .int .i64 0] t)).alloc (.cells #[.int .i64 2, .int .i64 0, .int .i64 0] t)) := by
  have h1 := kbox_new w 3 5 0 t
  have h2 := kbox_new (w.alloc (.cells #[.int .i64 3, .int .i64 5, .int .i64 0] t)) 3 4 0 t
  have h3 := kbox_new ((w.alloc (.cells #[.int .i64 3, .int .i64 5, .int .i64 0] t)).alloc (.cells #[.int .i64 3, .int .i64 4, .int .i64 0] t)) 2 0 0 t
  rw [World.size_alloc] at h2
  rw [World.size_alloc, World.size_alloc] at h3
  have m : More w (((w.alloc (.cells #[.int .i64 3, .int .i64 5, .int .i64 0] t)).alloc (.cells #[.int .i64 3, .int .i64 4, .int .i64 0] t)).alloc (.cells #[.int .i64 2, .int .i64 0, .int .i64 0] t)) := (((More.refl w).alloc _).alloc _).alloc _
  exact ⟨h1.next ((((More.refl _).alloc _).alloc _).below), h2.next (((More.refl _).alloc _).below), h3, m, hT.below m.below⟩

set_option maxHeartbeats 1000000 in
theorem wakes_any (w : World) (hT : TabOk w) : Calls Tryd.prog 7 #[] w fun e w' => e = .returned (.bool true) ∧ More w w' := by
  have C1 := compare_any 3 5 0 3 4 0
  rw [show kcm 3 5 0 3 4 0 = -1 by decide] at C1
  have C2 := compare_any 2 0 0 3 5 0
  rw [show kcm 2 0 0 3 5 0 = -1 by decide] at C2
  have C3 := compare_any 3 4 0 3 5 0
  rw [show kcm 3 4 0 3 5 0 = 1 by decide] at C3
  have C4 := compare_any 3 5 0 3 5 0
  rw [show kcm 3 5 0 3 5 0 = 0 by decide] at C4
  have C5 := text_any 3 5 0 (by unfold I64; omega) (by unfold I64; omega) (by unfold I64; omega)
  rw [txt_wakes] at C5
  have F := Lib.hid (k3_new w 25 hT)
  clear hT
  go_enter Tryd.func7, Tryd.ntmps7
  go_wp2_with fail
  with_reducible refine (C1 _).mono ?_
  rintro e w1 ⟨rfl, m1⟩
  have G := F.out.next m1
  have F := Lib.hid G
  clear m1
  obtain ⟨⟨a0, a1, a2, az⟩, ⟨b0, b1, b2, bz⟩, ⟨c0, c1, c2, cz⟩, _, _⟩ := G
  go_wp2_with fail
  with_reducible refine (C2 _).mono ?_
  rintro e w2 ⟨rfl, m2⟩
  clear a0 a1 a2 az b0 b1 b2 bz c0 c1 c2 cz
  have G := F.out.next m2
  have F := Lib.hid G
  clear m2
  obtain ⟨⟨a0, a1, a2, az⟩, ⟨b0, b1, b2, bz⟩, ⟨c0, c1, c2, cz⟩, _, _⟩ := G
  go_wp2_with fail
  with_reducible refine (C3 _).mono ?_
  rintro e w2 ⟨rfl, m2⟩
  clear a0 a1 a2 az b0 b1 b2 bz c0 c1 c2 cz
  have G := F.out.next m2
  have F := Lib.hid G
  clear m2
  obtain ⟨⟨a0, a1, a2, az⟩, ⟨b0, b1, b2, bz⟩, ⟨c0, c1, c2, cz⟩, _, _⟩ := G
  go_wp2_with fail
  with_reducible refine (C4 _).mono ?_
  rintro e w2 ⟨rfl, m2⟩
  clear a0 a1 a2 az b0 b1 b2 bz c0 c1 c2 cz
  have G := F.out.next m2
  have F := Lib.hid G
  clear m2
  obtain ⟨⟨a0, a1, a2, az⟩, ⟨b0, b1, b2, bz⟩, ⟨c0, c1, c2, cz⟩, _, _⟩ := G
  go_wp2_with fail
  with_reducible refine (C5 _ F.out.T).mono ?_
  rintro e w2 ⟨rfl, m2⟩
  have M := F.out.M.trans m2
  clear m2 a0 a1 a2 az b0 b1 b2 bz c0 c1 c2 cz
  go_wp2
  go_ret
  exact ⟨rfl, M⟩

theorem rless_any (x y : En) (w : World) :
    Calls Tryd.prog 11 #[entV x, entV y] w fun e w' => e = .returned (.bool (eltB x y)) ∧ More w w' := by
  have C := rcmp_any x y
  have F := ETwo.mk (w := w) ((ebox_new w x.b x.d x.s x.i 29).next (More.alloc (More.refl _) (.cells #[.int .i64 y.b, .int .i64 y.d, .int .i64 y.s, .int .i64 y.i] 29)).below) (by have h := ebox_new (w.alloc (.cells #[.int .i64 x.b, .int .i64 x.d, .int .i64 x.s, .int .i64 x.i] 29)) y.b y.d y.s y.i 29; rw [World.size_alloc] at h; exact h) (((More.refl w).alloc _).alloc _)
  have F2 := Lib.hid F
  clear F
  have key : (kcm x.b x.d x.s y.b y.d y.s = -1 ∧ eltB x y = true) ∨ (kcm x.b x.d x.s y.b y.d y.s = 0 ∧ ((x.i < y.i ∧ eltB x y = true) ∨ (¬ x.i < y.i ∧ eltB x y = false))) ∨ (kcm x.b x.d x.s y.b y.d y.s = 1 ∧ eltB x y = false) := by
    unfold eltB ecm
    rcases kcm_range x.b x.d x.s y.b y.d y.s with e | e | e
    · left; rw [e, orI_m]; simp
    · right; left
      rw [e, orI_zero]
      rcases cmp3_cases x.i y.i with ⟨e1, h1⟩ | ⟨e1, h1⟩ | ⟨e1, h1⟩
      · exact ⟨rfl, .inl ⟨h1, by rw [e1]; simp⟩⟩
      · exact ⟨rfl, .inr ⟨by omega, by rw [e1]; simp⟩⟩
      · exact ⟨rfl, .inr ⟨by omega, by rw [e1]; simp⟩⟩
    · right; right; rw [e, orI_p]; simp
  unfold entV at *
  rcases key with ⟨h1, h2⟩ | ⟨h1, ⟨h3, h2⟩ | ⟨h3, h2⟩⟩ | ⟨h1, h2⟩
  all_goals
    rw [h2]
    rw [h1] at C
    clear h1 h2
    go_enter Tryd.func11, Tryd.ntmps11
    go_wp2_with fail
    with_reducible refine (C _).mono ?_
    rintro e w2 ⟨rfl, m2⟩
    obtain ⟨⟨a0, a1, a2, a3, az⟩, ⟨b0, b1, b2, b3, bz⟩, M⟩ := F2.out.next m2
    clear m2
    go_wp2
    go_ret
    first | exact ⟨rfl, M⟩ | exact ⟨congrArg (fun b => Ending.returned (.bool b)) (decide_eq_false (Int.not_lt.2 h3)), M⟩

set_option maxHeartbeats 1000000 in
theorem rtext_any (x : En) (hx : EnOk x) (w : World) :
    Calls Tryd.prog 13 #[entV x] w fun e w' => e = .returned (.string (txtK x.b x.d x.s)) ∧ Below w.heap.size w w' := by
  obtain ⟨b, d, s, i⟩ := x
  obtain ⟨hb, hd, hs, hi⟩ := hx
  have C1 := digits_any b hb
  have C2 := digits_any d hd
  have C3 := digits_any s hs
  unfold txtK entV
  simp only at *
  obtain ⟨A, hA, sA⟩ := itoa_ba b hb
  obtain ⟨B, hB, sB⟩ := itoa_ba d hd
  obtain ⟨C, hC, sC⟩ := itoa_ba s hs
  rw [hA] at C1 ⊢
  rw [hB] at C2 ⊢
  rw [hC] at C3 ⊢
  have n1 : ¬ (9223372036854775807 < A.size + 1) := by omega
  have n2 : ¬ (9223372036854775806 < A.size) := by omega
  have n3 : ¬ (9223372036854775807 < A.size + 1 + B.size) := by omega
  have n4 : ¬ (9223372036854775807 < A.size + 1 + B.size + 1) := by omega
  have n5 : ¬ (9223372036854775806 < A.size + 1 + B.size) := by omega
  have n6 : ¬ (9223372036854775807 < A.size + 1 + B.size + 1 + C.size) := by omega
  clear hA hB hC hb hd hs hi
  go_enter Tryd.func13, Tryd.ntmps13
  have N := ebox_new w b d s i 29
  have B0 := Lib.hid ((More.refl w).alloc (.cells #[.int .i64 b, .int .i64 d, .int .i64 s, .int .i64 i] 29)).below
  go_wp2_with fail
  with_reducible refine (C1 _).mono ?_
  rintro e w1 ⟨rfl, m1⟩
  have N1 := N.next m1
  have B1 := Lib.hid (B0.out.trans (m1.mono B0.out.size))
  have HN := Lib.hid N1
  clear m1 N
  obtain ⟨a0, a1, a2, a3, az⟩ := N1
  go_wp2_with fail
  with_reducible refine (C2 _).mono ?_
  rintro e w2 ⟨rfl, m2⟩
  have N2 := HN.out.next m2
  have B2 := Lib.hid (B1.out.trans (m2.mono B1.out.size))
  clear m2 a0 a1 a2 a3 az
  obtain ⟨a0, a1, a2, a3, az⟩ := N2
  go_wp2_with fail
  with_reducible refine (C3 _).mono ?_
  rintro e w3 ⟨rfl, m3⟩
  have B3 := B2.out.trans (m3.mono B2.out.size)
  clear m3 a0 a1 a2 a3 az
  go_wp2
  go_ret
  exact ⟨rfl, B3⟩
end Go.Proofs.YthfdpnmdcmpgbaaDoor
