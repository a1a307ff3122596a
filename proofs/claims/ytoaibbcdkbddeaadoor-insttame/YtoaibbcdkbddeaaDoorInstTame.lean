/-
  InstTame (layer 9, P9.1): an instance with each number in its limits, square, with elements that rise, may be; one more than the limit, and it mayn't: for every instance and every two numbers the law returns true, and they read as they did. Condition: the listed table of the kinds' words reads as the row says (tied to the program's text).
-/
import Derived.Test.YtoaibbcdkbddeaaDoorInstTameAny
import Derived.Test.YtoaibbcdkbddeaaDoorInstTameKit
import Derived.Test.YtoaibbcdkbddeaaDoorInstWake
import Derived.Test.YtoaibbcdkbddeaaDoorInstFrame
import Derived.SevenTiedAt
namespace Go.Proofs.YtoaibbcdkbddeaaDoor.instTame
open Go.Proofs.YtoaibbcdkbddeaaDoor
set_option maxRecDepth 100000
open Go.RowKit

theorem shape {F G : Nat → Prop} {w : World} {I J : In} {a b c : Value} (h : Ins F G w (inV I a b c) J) : (∃ A n C, a = .slice A n C) ∧ (∃ A n C, b = .slice A n C) ∧ (∃ A n C, c = .slice A n C) := by
  obtain ⟨vi, vc, vs, uc, us, e, hi, hc, hs⟩ := h.form
  unfold inV at e
  simp only [Value.agg.injEq, Array.mk.injEq, List.cons.injEq, and_true] at e
  obtain ⟨_, _, rfl, rfl, _, rfl⟩ := e
  obtain ⟨A0, C0, rfl, _, _⟩ := hi.form
  obtain ⟨A, C, rfl, _, _⟩ := hc.form
  obtain ⟨A2, C2, rfl, _, _⟩ := hs.form
  exact ⟨⟨_, _, _, rfl⟩, ⟨_, _, _, rfl⟩, ⟨_, _, _, rfl⟩⟩

theorem own_n {M size n : Nat} {w : World} {t : TypeId} {v : Value} {cs : List Value} (h : w.ownsRow M t size v n cs) : ∃ A C, v = .slice A n C := by
  rcases h.2 with ⟨q1, q2⟩ | ⟨g_, c_, _, q1, _⟩
  · exact ⟨none, 0, by rw [q1, q2]⟩
  · exact ⟨_, _, q1⟩
theorem with_cap {F G : Nat → Prop} {w : World} {I : In} {a b c : Value} (x : Int) (h : Ins F G w (inV I a b c) I) : Ins F G w (.agg #[.int .i64 I.kind, .int .i64 x, a, b, .int .i64 I.size, c]) { I with cap := x } := by
  obtain ⟨vi, vc, vs, uc, us, e, h1, h2, h3⟩ := h.form
  unfold inV at e
  simp only [Value.agg.injEq, Array.mk.injEq, List.cons.injEq, and_true] at e
  obtain ⟨_, _, rfl, rfl, _, rfl⟩ := e
  exact ⟨⟨_, _, _, uc, us, rfl, h1, h2, h3⟩⟩
theorem with_size {F G : Nat → Prop} {w : World} {I : In} {a b c : Value} (x : Int) (h : Ins F G w (inV I a b c) I) : Ins F G w (.agg #[.int .i64 I.kind, .int .i64 I.cap, a, b, .int .i64 x, c]) { I with size := x } := by
  obtain ⟨vi, vc, vs, uc, us, e, h1, h2, h3⟩ := h.form
  unfold inV at e
  simp only [Value.agg.injEq, Array.mk.injEq, List.cons.injEq, and_true] at e
  obtain ⟨_, _, rfl, rfl, _, rfl⟩ := e
  exact ⟨⟨_, _, _, uc, us, rfl, h1, h2, h3⟩⟩

set_option maxHeartbeats 4000000 in
theorem walk (I : In) (x : Value) (a b : Int) (w : World) (h1 : Ins (fun _ => True) (fun _ => True) w x I) (_b1 : I64 I.kind ∧ I64 I.cap ∧ I64 I.size) (wa : I64 a) (wb : I64 b) (hW : WordsOk w) :
    Calls Tryd.prog 6 #[x, .agg #[.int .i64 a, .int .i64 b]] w fun e w' => e = .returned (.bool true) ∧ Below w.heap.size w w' := by
  have TM := fun W h => tame_any I x W h
  unfold IsTame at TM
  obtain ⟨vi, vc, vs, uc, us, rfl, hi, hc, hs⟩ := h1.form
  obtain ⟨A0, C0, rfl, _, _⟩ := hi.form
  obtain ⟨A, C, rfl, _, _⟩ := hc.form
  obtain ⟨A2, C2, rfl, _, _⟩ := hs.form
  obtain ⟨w0, hw0⟩ : ∃ q, q = (w.alloc (.cells #[.int .i64 I.kind, .int .i64 I.cap, .slice A0 I.items.length C0, .slice A I.cost.length C, .int .i64 I.size, .slice A2 I.sets.length C2] 26)).alloc (.cells #[.int .i64 a, .int .i64 b] 57) := ⟨_, rfl⟩
  have hAT : w0.cell? ⟨w.heap.size + 1, 0, none⟩ = some (.int .i64 a) ∧ w0.cell? ⟨w.heap.size + 1, 1, none⟩ = some (.int .i64 b) := by
    have := heap_alloc_new (w.alloc (.cells #[.int .i64 I.kind, .int .i64 I.cap, .slice A0 I.items.length C0, .slice A I.cost.length C, .int .i64 I.size, .slice A2 I.sets.length C2] 26)) (.cells #[.int .i64 a, .int .i64 b] 57)
    rw [World.size_alloc, ← hw0] at this
    constructor <;> (unfold World.cell?; simp only [this]; rfl)
  have HB : Hid (Below w.heap.size w w0) := by rw [hw0]; exact (new_below w _).alloc (by simp) _
  have H1 := Lib.hid (h1.next HB.out)
  have HW := Lib.hid (hW.next HB.out)
  have HW0 := Lib.hid hW
  have hs0 : w.heap.size + 1 < w0.heap.size := by rw [hw0]; simp
  have HAT := Lib.hid hAT
  unfold I64 at wa wb
  clear h1 hi hc hs hW hAT _b1
  go_enter Tryd.func6, Tryd.ntmps6
  go_wp2_with fail
  rw [← hw0]
  clear hw0
  with_reducible refine (TM _ H1.out).mono ?_
  rintro e w1 ⟨J, v, rfl, hJ, sm, hch, b1⟩
  have SM := Lib.hid sm
  have HCH := Lib.hid hch
  have nb1 := new_below w1
  obtain ⟨ti, tc, ts, tuc, tus, rfl, hti, htc, hts⟩ := hJ.form
  obtain ⟨B0, D0, rfl, _, _⟩ := hti.form
  obtain ⟨B1, D1, rfl, _, _⟩ := htc.form
  obtain ⟨B2, D2, rfl, _, _⟩ := hts.form
  have NB := new_below w1 (.cells #[.int .i64 J.kind, .int .i64 J.cap, .slice B0 J.items.length D0, .slice B1 J.cost.length D1, .int .i64 J.size, .slice B2 J.sets.length D2] 26)
  have HB1 := Lib.hid (on b1 NB)
  have IN := insts_any (fun _ => True) (fun _ => True) J _ _ (hJ.next NB)
  unfold IsInsts at IN
  have hLO := Nat.le_trans (show w.heap.size ≤ w0.heap.size by omega) HB1.out.size
  rw [SM.out.cut_eq] at IN
  clear hti htc hts hJ sm hch b1 nb1 NB TM H1
  go_wp2_with fail
  with_reducible refine IN.mono ?_
  rintro e w3 ⟨ai, ac, az, auc, aus, ci, cc, cs, rfl, mA, mC, b3⟩
  obtain ⟨⟨U1, l1, M1, rfl⟩, ⟨U2, l2, M2, rfl⟩, ⟨U3, l3, M3, rfl⟩⟩ := shape mA.ins
  obtain ⟨⟨U4, l4, M4, rfl⟩, ⟨U5, l5, M5, rfl⟩, ⟨U6, l6, M6, rfl⟩⟩ := shape mC
  have nb3 := (new_below w3 (.cells #[.int .i64 J.kind, .int .i64 J.cap, .slice U1 l1 M1, .slice U2 l2 M2, .int .i64 J.size, .slice U3 l3 M3] 33)).alloc (by simp) (.cells #[.int .i64 J.kind, .int .i64 J.cap, .slice U4 l4 M4, .slice U5 l5 M5, .int .i64 J.size, .slice U6 l6 M6] 36)
  obtain ⟨w5, hw5⟩ : ∃ q, q = (w3.alloc (.cells #[.int .i64 J.kind, .int .i64 J.cap, .slice U1 l1 M1, .slice U2 l2 M2, .int .i64 J.size, .slice U3 l3 M3] 33)).alloc (.cells #[.int .i64 J.kind, .int .i64 J.cap, .slice U4 l4 M4, .slice U5 l5 M5, .int .i64 J.size, .slice U6 l6 M6] 36) := ⟨_, rfl⟩
  have xA := (iblk_new w3 (.int .i64 J.kind) (.int .i64 J.cap) (.slice U1 l1 M1) (.slice U2 l2 M2) (.int .i64 J.size) (.slice U3 l3 M3) 33).next (new_below _ (.cells #[.int .i64 J.kind, .int .i64 J.cap, .slice U4 l4 M4, .slice U5 l5 M5, .int .i64 J.size, .slice U6 l6 M6] 36))
  rw [← hw5] at nb3 xA
  have hB5 := on HB1.out (on b3 nb3)
  have hM5 := mA.next nb3
  have hW5 := HW.out.next hB5
  have hlo : w0.heap.size ≤ w3.heap.size := by have := HB1.out.size; have := b3.size; omega
  have WK := wakes_any w5 hW5
  have XA := Lib.hid xA
  have HM := Lib.hid hM5
  have HM3 := Lib.hid mA
  have HB3 := Lib.hid nb3
  have HB5 := Lib.hid hB5
  have HW5 := Lib.hid hW5
  clear xA hM5 hB5 hW5 mA mC nb3 b3 IN HB1 HW
  unfold inV
  go_wp2_with fail
  rw [← hw5]
  clear hw5
  with_reducible refine WK.mono ?_
  rintro e w6 ⟨rfl, b6⟩
  have X6 := XA.out.next b6
  have hM6 := HM.out.next b6
  have hB6 := on HB5.out b6
  have HB36 := Lib.hid (on HB3.out b6)
  have hW6 := HW5.out.next b6
  have CK := check_any _ _ J _ w6 hM6.ins hW6
  rw [HCH.out] at CK
  obtain ⟨a0, a1, a2, a3, a4, a5⟩ := X6.box
  have X6' := Lib.hid X6
  have HM6 := Lib.hid hM6
  have HB6 := Lib.hid hB6
  have HW6 := Lib.hid hW6
  clear XA HM HB5 HW5 WK b6 X6 hM6 hB6 hW6
  unfold inV at CK
  go_wp2_with fail
  with_reducible refine CK.mono ?_
  rintro e w7 ⟨rfl, b7⟩
  have X7 := X6'.out.next b7
  have HM7 := Lib.hid (HM6.out.next b7)
  have HB7 := Lib.hid (on HB6.out b7)
  have HB37 := Lib.hid (on HB36.out b7)
  have HW7 := Lib.hid (HW6.out.next b7)
  have at0 := (HB7.out.cell (p := ⟨w.heap.size + 1, 0, none⟩) hs0).trans HAT.out.1
  have at1 := (HB7.out.cell (p := ⟨w.heap.size + 1, 1, none⟩) hs0).trans HAT.out.2
  obtain ⟨c0, c1, c2, c3, c4, c5⟩ := X7.box
  have HX7 := Lib.hid X7
  clear X6' HM6 HB6 HW6 CK b7 X7 a0 a1 a2 a3 a4 a5 HAT
  obtain ⟨p, hp⟩ : ∃ p : Nat, max 0 a = (p : Int) := ⟨(max 0 a).toNat, by omega⟩
  obtain ⟨q, hq⟩ : ∃ q : Nat, max 0 b = (q : Int) := ⟨(max 0 b).toNat, by omega⟩
  have p0 : (0 : Int) ≤ (p : Int) := by omega
  have q0 : (0 : Int) ≤ (q : Int) := by omega
  go_wp2
  go_region_held3 (fun W => W.cell? ⟨w.heap.size + 1, 0, none⟩ = some (.int .i64 a) ∧ W.cell? ⟨w.heap.size + 1, 1, none⟩ = some (.int .i64 b)) (go_keep) (fail)
  all_goals
    have X8 : IBlk w3.heap.size 33 (.int .i64 J.kind) (.int .i64 J.cap) (.slice U1 l1 M1) (.slice U2 l2 M2) (.int .i64 J.size) (.slice U3 l3 M3) w7.drew := HX7.out.next (Below.refl _ _).drew
    have HB38 : Hid (Below w3.heap.size w3 w7.drew) := HB37.out.drew
    have HB8 : Hid (Below w.heap.size w w7.drew) := on HB.out HB7.out.drew
    clear HX7 HB37 HB7 HM7 HW7 at0 at1 c0 c1 c2 c3 c4 c5
    generalize w7.drew = w8 at *
    have hlw : w.heap.size ≤ w3.heap.size := by omega
    have HX8 := Lib.hid X8
    obtain ⟨c0, c1, c2, c3, c4, c5⟩ := X8.box
    have fx := fun o => X8.free o
    clear X8
    obtain ⟨k0, k3, _⟩ := chk_zero HCH.out
    rcases (show J.kind = 0 ∨ J.kind = 3 ∨ (J.kind = 1 ∨ J.kind = 2) by omega) with hk | hk | hk
    · have jc := (own_zero HCH.out hk).1
      have js := (own_zero HCH.out hk).2.2
      by_cases hn : 0 < J.items.length
      · obtain ⟨g, cg, eg, hg0, hg1⟩ := HM3.out.items.form hn
        have own8 := own_next HM3.out.items (HB38.out)
        obtain ⟨j, hj⟩ : ∃ j, p % J.items.length = j := ⟨_, rfl⟩
        have hjl : j < J.items.length := by rw [← hj]; exact Nat.mod_lt _ hn
        have hji : (p : Int) % (J.items.length : Int) = (j : Int) := by omega
        have hjt : (p : Int).tmod (J.items.length : Int) = (j : Int) := by rw [Int.tmod_eq_emod_of_nonneg p0]; exact hji
        have hn1 : (0 : Int) < (J.items.length : Int) := by omega
        have hn0 : ¬ (J.items.length : Int) = 0 := by omega
        have j0 : (0 : Int) ≤ (j : Int) := by omega
        have j1 : (j : Int) < (J.items.length : Int) := by omega
        have hpt := List.getElem?_eq_getElem hjl
        generalize J.items[j] = pt at hpt
        simp only [Value.slice.injEq] at eg
        obtain ⟨rfl, rfl, rfl⟩ := eg
        have s0 : w8.cell? ⟨g, j * 2 + 1, none⟩ = some (.int .i64 pt.2) := (own8.cellAt (j * 2 + 1) (by omega)).trans (fl2_get hpt).2
        have s1 : w8.frozen? ⟨g, j * 2 + 1, none⟩ = false := own8.frozenAt (j * 2 + 1)
        have gx : g < w3.heap.size := hg1
        have gw := Nat.le_trans hLO hg0
        have hne : ¬ J.items = [] := by intro e; rw [e] at hn; simp at hn
        have hn4 : ¬ J.items.length = 0 := by omega
        go_wp2
        have HX9 : Hid (IBlk w3.heap.size 33 (.int .i64 J.kind) (.int .i64 J.cap) (.slice (some ⟨g, 0, none⟩) J.items.length M1) (.slice U2 l2 M2) (.int .i64 J.size) (.slice U3 l3 M3) (w8.setCell ⟨g, j * 2 + 1, none⟩ (.int .i64 2147483649)).drew) := (HX8.out.other (a := ⟨g, j * 2 + 1, none⟩) (by show w3.heap.size ≠ g; omega) _).next (Below.refl _ _).drew
        have HI9 := Lib.hid (((HM3.out.next HB38.out).item jc js rfl hpt 2147483649).next (Below.refl _ _).drew)
        have HC9 := Lib.hid (put_item HCH.out hpt)
        have HB9 : Hid (Below w.heap.size w (w8.setCell ⟨g, j * 2 + 1, none⟩ (.int .i64 2147483649)).drew) := (HB8.out.setCell (p := ⟨g, j * 2 + 1, none⟩) (by show w.heap.size ≤ g; omega) _).drew
        have CK9 := check_any _ _ _ _ (w8.setCell ⟨g, j * 2 + 1, none⟩ (.int .i64 2147483649)).drew HI9.out (HW0.out.next HB9.out)
        rw [HC9.out] at CK9
        try unfold inV at CK9
        try rw [hk] at CK9
        obtain ⟨e0, e1, e2, e3, e4, e5⟩ := HX9.out.box
        go_region_held3 (fun W => W.cell? ⟨w3.heap.size, 2, none⟩ = some (.slice (some ⟨g, 0, none⟩) J.items.length M1)) (first | go_keep | exact e2) (fail)
        all_goals
          go_wp2_with fail
          with_reducible refine CK9.mono ?_
          rintro e w10 ⟨rfl, b10⟩
          obtain ⟨z0, z1, z2, z3, z4, z5⟩ := (HX9.out.next b10).box
          have NK := N_any _ _ _ _ w10 (HI9.out.next b10) (HW0.out.next (on HB9.out b10))
          rw [dec_none HC9.out] at NK
          try unfold inV at NK
          try rw [hk] at NK
          have HB10 := Lib.hid (on HB9.out b10)
          clear b10
          go_wp2_with fail
          with_reducible refine NK.mono ?_
          rintro e w11 ⟨rfl, b11⟩
          have HB11 := Lib.hid (on HB10.out b11)
          clear b11
          go_wp2
          go_ret
          exact ⟨rfl, HB11.out⟩
      · have hn0 : J.items.length = 0 := by omega
        have hl0 : l1 = 0 := by
          obtain ⟨A_, C_, e_⟩ := own_n HM3.out.items
          simp only [Value.slice.injEq] at e_
          omega
        subst hl0
        have HX9 : Hid (IBlk w3.heap.size 33 (.int .i64 J.kind) (.int .i64 2147483649) (.slice U1 0 M1) (.slice U2 l2 M2) (.int .i64 J.size) (.slice U3 l3 M3) (w8.setCell ⟨w3.heap.size, 1, none⟩ (.int .i64 2147483649))) := HX8.out.set1 _
        have HI9 := Lib.hid (with_cap 2147483649 (HM3.out.ins.next (HB38.out.setCell (p := ⟨w3.heap.size, 1, none⟩) (Nat.le_refl _) (.int .i64 2147483649))))
        have HC9 := Lib.hid (put_cap HCH.out hk)
        have HB9 : Hid (Below w.heap.size w (w8.setCell ⟨w3.heap.size, 1, none⟩ (.int .i64 2147483649))) := HB8.out.setCell (p := ⟨w3.heap.size, 1, none⟩) hlw _
        have CK9 := check_any _ _ _ _ (w8.setCell ⟨w3.heap.size, 1, none⟩ (.int .i64 2147483649)) HI9.out (HW0.out.next HB9.out)
        rw [HC9.out] at CK9
        try unfold inV at CK9
        try rw [hk] at CK9
        obtain ⟨e0, e1, e2, e3, e4, e5⟩ := HX9.out.box
        go_wp2_with fail
        with_reducible refine CK9.mono ?_
        rintro e w10 ⟨rfl, b10⟩
        obtain ⟨z0, z1, z2, z3, z4, z5⟩ := (HX9.out.next b10).box
        have NK := N_any _ _ _ _ w10 (HI9.out.next b10) (HW0.out.next (on HB9.out b10))
        rw [dec_none HC9.out] at NK
        try unfold inV at NK
        try rw [hk] at NK
        have HB10 := Lib.hid (on HB9.out b10)
        clear b10
        go_wp2_with fail
        with_reducible refine NK.mono ?_
        rintro e w11 ⟨rfl, b11⟩
        have HB11 := Lib.hid (on HB10.out b11)
        clear b11
        go_wp2
        go_ret
        exact ⟨rfl, HB11.out⟩
    · have ji := (own_three HCH.out hk).2.1
      have jc := (own_three HCH.out hk).2.2
      by_cases hn : 0 < J.sets.length
      · obtain ⟨g, cg, eg, hg0, hg1⟩ := HM3.out.sets.form hn
        have own8 := own_next HM3.out.sets (HB38.out)
        obtain ⟨j, hj⟩ : ∃ j, p % J.sets.length = j := ⟨_, rfl⟩
        have hjl : j < J.sets.length := by rw [← hj]; exact Nat.mod_lt _ hn
        have hji : (p : Int) % (J.sets.length : Int) = (j : Int) := by omega
        have hjt : (p : Int).tmod (J.sets.length : Int) = (j : Int) := by rw [Int.tmod_eq_emod_of_nonneg p0]; exact hji
        have hn1 : (0 : Int) < (J.sets.length : Int) := by omega
        have hn0 : ¬ (J.sets.length : Int) = 0 := by omega
        have j0 : (0 : Int) ≤ (j : Int) := by omega
        have j1 : (j : Int) < (J.sets.length : Int) := by omega
        have hpt := List.getElem?_eq_getElem hjl
        generalize J.sets[j] = pt at hpt
        obtain ⟨us_, hus⟩ : ∃ u, _[j]? = some u := ⟨_, List.getElem?_eq_getElem (l := aus) (by rw [HM3.out.slen]; exact hjl)⟩
        simp only [Value.slice.injEq] at eg
        obtain ⟨rfl, rfl, rfl⟩ := eg
        have s0 : w8.cell? ⟨g, j * 2, none⟩ = some (.int .i64 pt.1) := (own8.cellAt (j * 2) (by omega)).trans (flS_get hpt hus).1
        have s1 : w8.frozen? ⟨g, j * 2, none⟩ = false := own8.frozenAt (j * 2)
        have gx : g < w3.heap.size := hg1
        have gw := Nat.le_trans hLO hg0
        have hne : ¬ J.sets = [] := by intro e; rw [e] at hn; simp at hn
        have hn4 : ¬ J.sets.length = 0 := by omega
        go_wp2
        have HX9 : Hid (IBlk w3.heap.size 33 (.int .i64 J.kind) (.int .i64 J.cap) (.slice U1 l1 M1) (.slice U2 l2 M2) (.int .i64 J.size) (.slice (some ⟨g, 0, none⟩) J.sets.length M3) (w8.setCell ⟨g, j * 2, none⟩ (.int .i64 (-1))).drew) := (HX8.out.other (a := ⟨g, j * 2, none⟩) (by show w3.heap.size ≠ g; omega) _).next (Below.refl _ _).drew
        have HI9 := Lib.hid (((HM3.out.next HB38.out).set ji jc rfl hpt (-1)).next (Below.refl _ _).drew)
        have HC9 := Lib.hid (put_set HCH.out hpt)
        have HB9 : Hid (Below w.heap.size w (w8.setCell ⟨g, j * 2, none⟩ (.int .i64 (-1))).drew) := (HB8.out.setCell (p := ⟨g, j * 2, none⟩) (by show w.heap.size ≤ g; omega) _).drew
        have CK9 := check_any _ _ _ _ (w8.setCell ⟨g, j * 2, none⟩ (.int .i64 (-1))).drew HI9.out (HW0.out.next HB9.out)
        rw [HC9.out] at CK9
        try unfold inV at CK9
        try rw [hk] at CK9
        obtain ⟨e0, e1, e2, e3, e4, e5⟩ := HX9.out.box
        go_region_held3 (fun W => W.cell? ⟨w3.heap.size, 5, none⟩ = some (.slice (some ⟨g, 0, none⟩) J.sets.length M3)) (first | go_keep | exact e5) (fail)
        all_goals
          go_wp2_with fail
          with_reducible refine CK9.mono ?_
          rintro e w10 ⟨rfl, b10⟩
          obtain ⟨z0, z1, z2, z3, z4, z5⟩ := (HX9.out.next b10).box
          have NK := N_any _ _ _ _ w10 (HI9.out.next b10) (HW0.out.next (on HB9.out b10))
          rw [dec_none HC9.out] at NK
          try unfold inV at NK
          try rw [hk] at NK
          have HB10 := Lib.hid (on HB9.out b10)
          clear b10
          go_wp2_with fail
          with_reducible refine NK.mono ?_
          rintro e w11 ⟨rfl, b11⟩
          have HB11 := Lib.hid (on HB10.out b11)
          clear b11
          go_wp2
          go_ret
          exact ⟨rfl, HB11.out⟩
      · have hn0 : J.sets.length = 0 := by omega
        have hl0 : l3 = 0 := by
          obtain ⟨A_, C_, e_⟩ := own_n HM3.out.sets
          simp only [Value.slice.injEq] at e_
          omega
        subst hl0
        have HX9 : Hid (IBlk w3.heap.size 33 (.int .i64 J.kind) (.int .i64 J.cap) (.slice U1 l1 M1) (.slice U2 l2 M2) (.int .i64 4097) (.slice U3 0 M3) (w8.setCell ⟨w3.heap.size, 4, none⟩ (.int .i64 4097))) := HX8.out.set4 _
        have HI9 := Lib.hid (with_size 4097 (HM3.out.ins.next (HB38.out.setCell (p := ⟨w3.heap.size, 4, none⟩) (Nat.le_refl _) (.int .i64 4097))))
        have HC9 := Lib.hid (put_size HCH.out hk)
        have HB9 : Hid (Below w.heap.size w (w8.setCell ⟨w3.heap.size, 4, none⟩ (.int .i64 4097))) := HB8.out.setCell (p := ⟨w3.heap.size, 4, none⟩) hlw _
        have CK9 := check_any _ _ _ _ (w8.setCell ⟨w3.heap.size, 4, none⟩ (.int .i64 4097)) HI9.out (HW0.out.next HB9.out)
        rw [HC9.out] at CK9
        try unfold inV at CK9
        try rw [hk] at CK9
        obtain ⟨e0, e1, e2, e3, e4, e5⟩ := HX9.out.box
        go_wp2_with fail
        with_reducible refine CK9.mono ?_
        rintro e w10 ⟨rfl, b10⟩
        obtain ⟨z0, z1, z2, z3, z4, z5⟩ := (HX9.out.next b10).box
        have NK := N_any _ _ _ _ w10 (HI9.out.next b10) (HW0.out.next (on HB9.out b10))
        rw [dec_none HC9.out] at NK
        try unfold inV at NK
        try rw [hk] at NK
        have HB10 := Lib.hid (on HB9.out b10)
        clear b10
        go_wp2_with fail
        with_reducible refine NK.mono ?_
        rintro e w11 ⟨rfl, b11⟩
        have HB11 := Lib.hid (on HB10.out b11)
        clear b11
        go_wp2
        go_ret
        exact ⟨rfl, HB11.out⟩
    · have ji := (own_square HCH.out (by omega) (by omega)).1
      have js := (own_square HCH.out (by omega) (by omega)).2.1
      have hn : 0 < J.cost.length := (own_square HCH.out (by omega) (by omega)).2.2
      have hform := (chk_zero HCH.out).2.2.2.2.1
      obtain ⟨g, cg, eg, hg0, hg1⟩ := HM3.out.cost.form hn
      have own8 := own_next HM3.out.cost (HB38.out)
      obtain ⟨j, hj⟩ : ∃ j, p % J.cost.length = j := ⟨_, rfl⟩
      have hjl : j < J.cost.length := by rw [← hj]; exact Nat.mod_lt _ hn
      have hji : (p : Int) % (J.cost.length : Int) = (j : Int) := by omega
      have hjt : (p : Int).tmod (J.cost.length : Int) = (j : Int) := by rw [Int.tmod_eq_emod_of_nonneg p0]; exact hji
      obtain ⟨m, hm⟩ : ∃ m, q % J.cost.length = m := ⟨_, rfl⟩
      have hml : m < J.cost.length := by rw [← hm]; exact Nat.mod_lt _ hn
      have hmi : (q : Int) % (J.cost.length : Int) = (m : Int) := by omega
      have hmt : (q : Int).tmod (J.cost.length : Int) = (m : Int) := by rw [Int.tmod_eq_emod_of_nonneg q0]; exact hmi
      have hn1 : (0 : Int) < (J.cost.length : Int) := by omega
      have hn0 : ¬ (J.cost.length : Int) = 0 := by omega
      have j0 : (0 : Int) ≤ (j : Int) := by omega
      have j1 : (j : Int) < (J.cost.length : Int) := by omega
      have m0' : (0 : Int) ≤ (m : Int) := by omega
      have m1' : (m : Int) < (J.cost.length : Int) := by omega
      have hpt := List.getElem?_eq_getElem hjl
      generalize J.cost[j] = r at hpt
      have hrl : r.length = J.cost.length := In.formed_row hform hpt
      obtain ⟨uj, huj⟩ : ∃ u, auc[j]? = some u := ⟨_, List.getElem?_eq_getElem (by rw [HM3.out.clen]; exact hjl)⟩
      have hro := HM3.out.rows j r uj hpt huj
      obtain ⟨rg, rc, er, hr0, hr1⟩ := hro.1.form (by omega)
      subst er
      have row8 := own_next hro.1 (HB38.out)
      simp only [Value.slice.injEq] at eg
      obtain ⟨rfl, rfl, rfl⟩ := eg
      have hdiff : rg ≠ g := fun e => hro.2 rg rfl (by rw [e]; rfl)
      have hdiff' : g ≠ rg := Ne.symm hdiff
      rw [hrl] at row8 hro huj
      have r0 : w8.cell? ⟨g, j, none⟩ = some (.slice (some ⟨rg, 0, none⟩) J.cost.length rc) := (own8.cellAt j (by omega)).trans huj
      have hym : ∃ y, r[m]? = some y := ⟨_, List.getElem?_eq_getElem (by rw [hrl]; exact hml)⟩
      obtain ⟨y, hy⟩ := hym
      have s0 : w8.cell? ⟨rg, m, none⟩ = some (.int .i64 y) := (row8.cellAt m (by omega)).trans (nl_get hy)
      have s1 : w8.frozen? ⟨rg, m, none⟩ = false := row8.frozenAt m
      have gx : g < w3.heap.size := hg1
      have rx : rg < w3.heap.size := hr1
      have gw := Nat.le_trans hLO hr0
      have hne : ¬ J.cost = [] := by intro e; rw [e] at hn; simp at hn
      have hn4 : ¬ J.cost.length = 0 := by omega
      have hsq : ∀ q ∈ J.cost, q.length = r.length := by
        intro q0 hq0
        obtain ⟨i0, hi0⟩ := List.mem_iff_getElem?.1 hq0
        rw [hrl]
        exact In.formed_row hform hi0
      obtain ⟨R, hRI, hRl, hRr, hRx⟩ := (HM3.out.next HB38.out).row ji js hpt (by rw [hrl]; exact huj) (by rw [hrl]; exact hml) hsq (-2147483649)
      have h22 : ({ J with cost := R } : In).chk = 22 := put_cost HCH.out hRl (fun q0 hq0 => by rw [hRr q0 hq0, hrl, hRl]) (by obtain ⟨q0, a1, a2⟩ := hRx; exact ⟨q0, a1, _, a2, rfl⟩)
      have HX9 : Hid (IBlk w3.heap.size 33 (.int .i64 J.kind) (.int .i64 J.cap) (.slice U1 l1 M1) (.slice (some ⟨g, 0, none⟩) J.cost.length M2) (.int .i64 J.size) (.slice U3 l3 M3) (w8.setCell ⟨rg, m, none⟩ (.int .i64 (-2147483649))).drew) := (HX8.out.other (a := ⟨rg, m, none⟩) (by show w3.heap.size ≠ rg; omega) _).next (Below.refl _ _).drew
      have HI9 := Lib.hid (hRI.next (Below.refl _ _).drew)
      have HC9 := Lib.hid h22
      have HB9 : Hid (Below w.heap.size w (w8.setCell ⟨rg, m, none⟩ (.int .i64 (-2147483649))).drew) := (HB8.out.setCell (p := ⟨rg, m, none⟩) (by show w.heap.size ≤ rg; omega) _).drew
      have CK9 := check_any _ _ _ _ (w8.setCell ⟨rg, m, none⟩ (.int .i64 (-2147483649))).drew HI9.out (HW0.out.next HB9.out)
      rw [HC9.out] at CK9
      try unfold inV at CK9
      obtain ⟨e0, e1, e2, e3, e4, e5⟩ := HX9.out.box
      have rr9 : (w8.setCell ⟨rg, m, none⟩ (.int .i64 (-2147483649))).drew.cell? ⟨g, j, none⟩ = some (.slice (some ⟨rg, 0, none⟩) J.cost.length rc) := (World.cell?_of_block (Below.heap_setCell w8 ⟨rg, m, none⟩ _ g (by show g ≠ rg; exact hdiff'))).trans r0
      clear hRI hRl hRr hRx h22 hsq own8 row8 hro huj hpt hrl hy hform hj hm ji js
      rcases hk with hk | hk
      · rw [hk] at CK9
        go_wp2
        go_region_held3 (fun W => W.cell? ⟨w3.heap.size, 3, none⟩ = some (.slice (some ⟨g, 0, none⟩) J.cost.length M2) ∧ W.cell? ⟨g, j, none⟩ = some (.slice (some ⟨rg, 0, none⟩) J.cost.length rc)) (first | go_keep | exact ⟨e3, rr9⟩) (fail)
        all_goals
          go_wp2_with fail
          with_reducible refine CK9.mono ?_
          rintro e w10 ⟨rfl, b10⟩
          obtain ⟨z0, z1, z2, z3, z4, z5⟩ := (HX9.out.next b10).box
          have NK := N_any _ _ _ _ w10 (HI9.out.next b10) (HW0.out.next (on HB9.out b10))
          rw [dec_none HC9.out] at NK
          try unfold inV at NK
          try rw [hk] at NK
          have HB10 := Lib.hid (on HB9.out b10)
          clear b10
          go_wp2_with fail
          with_reducible refine (NK).mono ?_
          rintro e w11 ⟨rfl, b11⟩
          have HB11 := Lib.hid (on HB10.out b11)
          clear b11
          go_wp2
          go_ret
          exact ⟨rfl, HB11.out⟩
      · rw [hk] at CK9
        go_wp2
        go_region_held3 (fun W => W.cell? ⟨w3.heap.size, 3, none⟩ = some (.slice (some ⟨g, 0, none⟩) J.cost.length M2) ∧ W.cell? ⟨g, j, none⟩ = some (.slice (some ⟨rg, 0, none⟩) J.cost.length rc)) (first | go_keep | exact ⟨e3, rr9⟩) (fail)
        all_goals
          go_wp2_with fail
          with_reducible refine CK9.mono ?_
          rintro e w10 ⟨rfl, b10⟩
          obtain ⟨z0, z1, z2, z3, z4, z5⟩ := (HX9.out.next b10).box
          have NK := N_any _ _ _ _ w10 (HI9.out.next b10) (HW0.out.next (on HB9.out b10))
          rw [dec_none HC9.out] at NK
          try unfold inV at NK
          try rw [hk] at NK
          have HB10 := Lib.hid (on HB9.out b10)
          clear b10
          go_wp2_with fail
          with_reducible refine (NK).mono ?_
          rintro e w11 ⟨rfl, b11⟩
          have HB11 := Lib.hid (on HB10.out b11)
          clear b11
          go_wp2
          go_ret
          exact ⟨rfl, HB11.out⟩

/-! ### the row -/
open Go.ChangeShapes Go.WideShapes Go.ChangeAt
theorem lifted (os : Os) (started : os.Started) (H : Type) (enc : TypeId × Value → H) :
    ReturnsInHanded {} Tryd.checked os 6 .any (fun w args => (Rows.instTameSpec.pre enc Tryd.prog Tryd.f6 [] false w args ∧ laidMetH Tryd.prog laidL w) ∧ sizedMet enc Tryd.prog Tryd.f6 (OpenSpec.ofChange Rows.instTameSpec) false w args)
      (Rows.instTameSpec.post enc Tryd.prog Tryd.f6 false true false false) := by
  refine returnsInHanded_of_change_and (C := Tryd.checked) (X := fun w _ => laidMetH Tryd.prog laidL w) (fun _ _ _ hh h => h.of_heap hh) own started (by kernel_rfl) Tryd.func6
    (ChangeSpec.witness_shaped (enc := enc) (C := Tryd.checked) (os := os) (X := fun w _ => laidMetH Tryd.prog laidL w) false (World.laidAll Tryd.prog os laidL) #[.agg #[.int .i64 0, .int .i64 0, .slice none 0 0, .slice none 0 0, .int .i64 0, .slice none 0 0], .agg #[.int .i64 0, .int .i64 0]] 8 (World.laidAll_os _ _ _) (start_shaped os) (by kernel_rfl) (by kernel_rfl) (by kernel_rfl) (start_met os _)) ?_
  intro W base args ds gs before hval0 hW _ _ hL _
  have hval : ∀ (j : Nat) t v, Tryd.f6.params[j]? = some t → args[j]? = some v → Value.okWide Tryd.prog W .any base t v := hval0
  have hW' := hW
  obtain ⟨p, q, hA0, hV, rfl, hfz, hnd⟩ := hW
  have hA : DataW.TrodAll enc Tryd.prog W 0 (fun _ => true) true Tryd.f6.params.toList args.toList ds p := hA0
  rw [Tryd.params6] at hA hval
  obtain ⟨v0, vs0, d0, ds0, p0, q0, hargs, rfl, rfl, h0, r0⟩ := trodAll_cons hA
  obtain ⟨v1, vs1, d1, ds1, p1, q1, rfl, rfl, rfl, h1, r1⟩ := trodAll_cons r0
  obtain ⟨rfl, rfl, rfl⟩ := trodAll_nil r1
  obtain rfl : args = #[v0, v1] := by cases args; simp_all
  obtain ⟨rfl, rfl⟩ := trodVars_none hV
  have k0 := h0
  have lt0 : ∀ x ∈ p0, x.block < W.heap.size := by obtain ⟨m, hm⟩ := k0; exact DataW.trod_lt m _ _ _ hm
  obtain ⟨I0, w0, b0⟩ := open_inst (hval 0 26 v0 rfl rfl) h0
  have k1 := h1
  have lt1 : ∀ x ∈ p1, x.block < W.heap.size := by obtain ⟨m, hm⟩ := k1; exact DataW.trod_lt m _ _ _ hm
  obtain ⟨a1, c1, rfl, wa1, wb1⟩ := open_ipair (hval 1 57 v1 rfl rfl) h1
  clear hA0 hval0
  refine (walk I0 v0 a1 c1 W w0 b0 wa1 wb1 (words_of_laid hL)).mono fun e W' ⟨he, bel⟩ => ?_
  subst he
  exact ⟨_, rfl, _, _, _, [], _, [], hW', trodAll_mk1 (shut_bool Tryd.underlying4 _), (trodAll_cons_mk (Below.trod laidOut (by kernel_rfl) (of_decide_eq_true (by kernel_rfl)) k0 bel lt0) (trodAll_cons_mk (Below.trod laidOut (by kernel_rfl) (of_decide_eq_true (by kernel_rfl)) k1 bel lt1) trodAll_mk0)), rfl, bel.frame _, fun h => by cases h⟩

theorem over : Rows.instTameRow.holds Tryd.pinned (OpenSpec.ofChange Rows.instTameSpec) :=
  OpenClaim.holds_of_wide 6 Tryd.f6 rfl rfl rfl rfl rfl rfl rfl ⟨rfl, rfl, rfl, rfl, rfl⟩ rfl rfl rfl rfl rfl (by kernel_rfl) Tryd.func6 (by kernel_rfl)
    (of_decide_eq_true (by kernel_rfl)) (by unfold Func.isWrapper; first | (rw [if_pos (by decide +kernel)]; kernel_rfl) | (rw [if_neg (by decide +kernel)]; exact ⟨rfl, rfl⟩))
    (fun os started H enc _ => lifted os started H enc)

theorem card : Rows.InstTameCardSaid :=
  Claim7.holds_tied_plain_at .later [] [.data] true _ false
    over (fun _ h => by cases h) (by kernel_rfl) (fun _ h => by cases h) instTame_row_tie rfl ⟨rfl, rfl⟩ (by kernel_rfl) rfl
    (fun f fn hf hfn => by
      obtain rfl : f = 6 := Option.some.inj ((show Tryd.prog.funcNamed Rows.instTameRow.func = some 6 by kernel_rfl).symm.trans hf) |>.symm
      obtain rfl : fn = Tryd.f6 := (Option.some.inj (Tryd.func6.symm.trans hfn)).symm
      exact ⟨by kernel_rfl, fun j t ht => by
        rw [Tryd.params6] at ht
        have hm : t ∈ [26, 57] := by simpa using Array.mem_of_getElem? ht
        have hall : ([26, 57].all fun u => !Tryd.prog.wantsStandIn u) = true := by kernel_rfl
        exact (show Tryd.prog.wantsStandIn t = false by simpa using List.all_eq_true.1 hall t hm)⟩)
    (by kernel_rfl)

end Go.Proofs.YtoaibbcdkbddeaaDoor.instTame
namespace Go.Proofs.YtoaibbcdkbddeaaDoor
theorem instTame_holds : Rows.InstTameCardSaid := instTame.card
#print axioms instTame_holds
end Go.Proofs.YtoaibbcdkbddeaaDoor
