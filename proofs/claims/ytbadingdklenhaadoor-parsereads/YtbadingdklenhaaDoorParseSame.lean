/-
  What the law's same does: the document's instance out of the program's, and whether it is the document's own.
-/
import Derived.Test.YtbadingdklenhaaDoorInstRefEq
import Derived.Test.YtbadingdklenhaaDoorParseRefKnap
namespace Go.Proofs.YtbadingdklenhaaDoor
set_option maxRecDepth 100000
open Go.RowKit

theorem infoSm : (Tryd.prog.info? 65).map (fun i => (i.zero, i.size, i.bytes)) = some (some (.agg #[.int .i64 0, .slice none 0 0]), 2, 32) := by kernel_rfl
/-- The items so far. -/
structure SmA (bc : Nat) (I : In) (vc : Value) (W0 : World) (k : Nat) (va : Value) (wr : World) : Prop where
  mk ::
  box : IBlk bc 36 (.int .i64 I.kind) (.int .i64 I.cap) va vc (.int .i64 I.size) (.slice none 0 0) wr
  own : wr.ownsRow (bc + 1) 64 2 va k (fl2 (I.items.take k))
  be : Below bc W0 wr
theorem SmA.next {bc k : Nat} {I : In} {vc va : Value} {W0 W W' : World} (h : SmA bc I vc W0 k va W) (hb : Below W.heap.size W W') : SmA bc I vc W0 k va W' :=
  ⟨h.box.next hb, own_next h.own hb, h.be.trans (hb.mono (by have := h.box.lt; omega))⟩
theorem SmA.step {bc k g' cap' : Nat} {I : In} {vc va : Value} {W0 w7 w8 : World} {p : Int × Int} (h : SmA bc I vc W0 k va w7) (hp : I.items[k]? = some p)
    (ho : w8.ownsRow (bc + 1) 64 2 (.slice (some ⟨g', 0, none⟩) (k + 1) cap') (k + 1) (fl2 (I.items.take k) ++ [.int .i64 p.1, .int .i64 p.2])) (hgr : w7.grownBy w8 va.ownBlock) :
    SmA bc I vc W0 (k + 1) (.slice (some ⟨g', 0, none⟩) (k + 1) cap') (w8.setCell ⟨bc, 2, none⟩ (.slice (some ⟨g', 0, none⟩) (k + 1) cap')) := by
  have hrow : ∀ q, va.ownBlock = some q → bc + 1 ≤ q := fun q hq => (h.own.lt q hq).1
  refine ⟨(h.box.keep (hgr.block _ h.box.lt (fun e => by have := hrow _ e.symm; omega))).set2 _, ?_, ?_⟩
  · rw [List.take_add_one, hp, fl2_append]
    exact ownsRow_setCell_below (a := ⟨bc, 2, none⟩) ho (show bc < bc + 1 by omega) _
  · exact (h.be.grown hgr (by have := h.box.lt; omega) (fun q hq => by have := hrow q hq; omega)).setCell (p := ⟨bc, 2, none⟩) (Nat.le_refl _) _
/-- The sets so far. -/
structure SmB (bc M : Nat) (I : In) (vi vc : Value) (us : List Value) (W0 : World) (k : Nat) (va : Value) (wr : World) : Prop where
  mk ::
  box : IBlk bc 36 (.int .i64 I.kind) (.int .i64 I.cap) vi vc (.int .i64 I.size) va wr
  items : wr.ownsRow (bc + 1) 64 2 vi I.items.length (fl2 I.items)
  lt : ∀ q, vi.ownBlock = some q → q < M
  own : wr.ownsRow M 65 2 va k (flS (I.sets.take k) (us.take k))
  be : Below bc W0 wr
  le : bc + 1 ≤ M
  sz : M ≤ wr.heap.size
theorem SmB.next {bc M k : Nat} {I : In} {vi vc va : Value} {us : List Value} {W0 W W' : World} (h : SmB bc M I vi vc us W0 k va W) (hb : Below W.heap.size W W') : SmB bc M I vi vc us W0 k va W' :=
  ⟨h.box.next hb, own_next h.items hb, h.lt, own_next h.own hb, h.be.trans (hb.mono (by have := h.box.lt; omega)), h.le, Nat.le_trans h.sz hb.size⟩
theorem SmB.step {bc M k g' cap' : Nat} {I : In} {vi vc va u : Value} {us : List Value} {W0 w7 w8 : World} {s : Int × List Int} (h : SmB bc M I vi vc us W0 k va w7) (hp : I.sets[k]? = some s) (hu : us[k]? = some u) (hul : us.length = I.sets.length)
    (ho : w8.ownsRow M 65 2 (.slice (some ⟨g', 0, none⟩) (k + 1) cap') (k + 1) (flS (I.sets.take k) (us.take k) ++ [.int .i64 s.1, u])) (hgr : w7.grownBy w8 va.ownBlock) :
    SmB bc M I vi vc us W0 (k + 1) (.slice (some ⟨g', 0, none⟩) (k + 1) cap') (w8.setCell ⟨bc, 5, none⟩ (.slice (some ⟨g', 0, none⟩) (k + 1) cap')) := by
  have hle := h.le
  have hrow : ∀ q, va.ownBlock = some q → M ≤ q := fun q hq => (h.own.lt q hq).1
  refine ⟨(h.box.keep (hgr.block _ h.box.lt (fun e => by have := hrow _ e.symm; omega))).set5 _, ?_, h.lt, ?_, ?_, hle, Nat.le_trans h.sz (by simpa [World.setCell] using hgr.size)⟩
  · refine ownsRow_setCell_below (a := ⟨bc, 5, none⟩) (h.items.kept hgr ?_) (show bc < bc + 1 by omega) _
    cases hv : vi.ownBlock with
    | none => exact .inl rfl
    | some q =>
      refine .inr (fun e => ?_)
      have h1 := h.lt q hv
      have h2 := hrow q (by rw [← e])
      omega
  · rw [List.take_add_one, hp, List.take_add_one, hu]
    simp only [Option.toList]
    rw [flS_append (by rw [List.length_take, List.length_take, hul])]
    exact ownsRow_setCell_below (a := ⟨bc, 5, none⟩) ho (show bc < M by omega) _
  · exact (h.be.grown hgr (by have := h.box.lt; omega) (fun q hq => by have := hrow q hq; omega)).setCell (p := ⟨bc, 5, none⟩) (Nat.le_refl _) _

/-- What it reads as at the end. -/
theorem SmB.ins {bc M : Nat} {I : In} {vi va : Value} {us : List Value} {W0 w wr : World} {A0 A A2 : Option Addr} {C0 C C2 : Nat} (h : SmB bc M I vi (.slice A I.cost.length C) us W0 I.sets.length va wr)
    (h1 : Ins (fun _ => True) (fun _ => True) w (.agg #[.int .i64 I.kind, .int .i64 I.cap, .slice A0 I.items.length C0, .slice A I.cost.length C, .int .i64 I.size, .slice A2 I.sets.length C2]) I) (hb : Below w.heap.size w wr) (hus : us.length = I.sets.length)
    (hs : ∀ (i : Nat) (s : Int × List Int) v, I.sets[i]? = some s → us[i]? = some v → Ints (fun _ => True) w v s.2) :
    Ins (fun _ => True) (fun _ => True) wr (.agg #[.int .i64 I.kind, .int .i64 I.cap, vi, .slice A I.cost.length C, .int .i64 I.size, va]) I := by
  obtain ⟨ui, uc, ut, vc, vt, e, hi, hc, hq⟩ := (h1.next hb).form
  simp only [Value.agg.injEq, Array.mk.injEq, List.cons.injEq, and_true, true_and] at e
  obtain ⟨_, rfl, _⟩ := e
  have ho := h.own
  rw [List.take_length, ← hus, List.take_length, hus] at ho
  exact ⟨⟨vi, _, va, vc, us, rfl, (lies_of_own h.items).imp fun _ _ => trivial, hc, ⟨hus, (lies_of_own ho).imp fun _ _ => trivial, fun i s v a b => Lies.held (hs i s v a b) (Below.held hb _)⟩⟩⟩
set_option maxHeartbeats 2000000 in
theorem psame_any (I J : In) (u v : Value) (w : World) (h1 : Ins (fun _ => True) (fun _ => True) w u I) (h2 : Ins (fun _ => True) (fun _ => True) w v J) (l1 : I.items.length ≤ 4096) (l2 : I.sets.length ≤ 4096) :
    Calls Tryd.prog 7 #[u, v] w fun e w' => e = .returned (.bool (In.eqI I J)) ∧ Below w.heap.size w w' := by
  obtain ⟨i0, hi0, hz01, hz02, hz03⟩ := info_parts infoPr
  obtain ⟨j0, hj0, hy01, hy02, hy03⟩ := info_parts infoSm
  obtain ⟨vi, vc, vs, uc, us, rfl, hi, hc, hs⟩ := h1.form
  obtain ⟨A0, C0, rfl, k0, m0⟩ := hi.form
  obtain ⟨A, C, rfl, k1, m1⟩ := hc.form
  obtain ⟨A2, C2, rfl, k2, m2⟩ := hs.form
  unfold maxLen at m0 m1 m2
  obtain ⟨xi, xc, xs, yc, ys, rfl, ji, jc, js⟩ := h2.form
  obtain ⟨A3, C3, rfl, _, _⟩ := ji.form
  obtain ⟨A4, C4, rfl, _, _⟩ := jc.form
  obtain ⟨A5, C5, rfl, _, _⟩ := js.form
  have nba := new_below w (.cells #[.int .i64 I.kind, .int .i64 I.cap, .slice A0 I.items.length C0, .slice A I.cost.length C, .int .i64 I.size, .slice A2 I.sets.length C2] 27)
  obtain ⟨wa, hwa⟩ : ∃ q, q = w.alloc (.cells #[.int .i64 I.kind, .int .i64 I.cap, .slice A0 I.items.length C0, .slice A I.cost.length C, .int .i64 I.size, .slice A2 I.sets.length C2] 27) := ⟨_, rfl⟩
  have sa : wa.heap.size = w.heap.size + 1 := by rw [hwa]; simp
  have xa : IBlk w.heap.size 27 (.int .i64 I.kind) (.int .i64 I.cap) (.slice A0 I.items.length C0) (.slice A I.cost.length C) (.int .i64 I.size) (.slice A2 I.sets.length C2) wa := by rw [hwa]; exact iblk_new w _ _ _ _ _ _ _
  rw [← hwa] at nba
  have nbb := new_below wa (.cells #[.int .i64 J.kind, .int .i64 J.cap, .slice A3 J.items.length C3, .slice A4 J.cost.length C4, .int .i64 J.size, .slice A5 J.sets.length C5] 36)
  obtain ⟨wb, hwb⟩ : ∃ q, q = wa.alloc (.cells #[.int .i64 J.kind, .int .i64 J.cap, .slice A3 J.items.length C3, .slice A4 J.cost.length C4, .int .i64 J.size, .slice A5 J.sets.length C5] 36) := ⟨_, rfl⟩
  have sb : wb.heap.size = w.heap.size + 1 + 1 := by rw [hwb]; simp; omega
  have xb : IBlk (w.heap.size + 1) 36 (.int .i64 J.kind) (.int .i64 J.cap) (.slice A3 J.items.length C3) (.slice A4 J.cost.length C4) (.int .i64 J.size) (.slice A5 J.sets.length C5) wb := by rw [hwb, ← sa]; exact iblk_new wa _ _ _ _ _ _ _
  rw [← hwb] at nbb
  have nbc := new_below wb (.cells #[.int .i64 I.kind, .int .i64 I.cap, .slice none 0 0, .slice A I.cost.length C, .int .i64 I.size, .slice none 0 0] 36)
  obtain ⟨W0, hW0⟩ : ∃ q, q = wb.alloc (.cells #[.int .i64 I.kind, .int .i64 I.cap, .slice none 0 0, .slice A I.cost.length C, .int .i64 I.size, .slice none 0 0] 36) := ⟨_, rfl⟩
  have sc : W0.heap.size = w.heap.size + 1 + 1 + 1 := by rw [hW0]; simp; omega
  have xc' : IBlk (w.heap.size + 1 + 1) 36 (.int .i64 I.kind) (.int .i64 I.cap) (.slice none 0 0) (.slice A I.cost.length C) (.int .i64 I.size) (.slice none 0 0) W0 := by rw [hW0, ← sb]; exact iblk_new wb _ _ _ _ _ _ _
  rw [← hW0] at nbc
  have hB0 : Below w.heap.size w W0 := on nba (on nbb nbc)
  have hB1 : Below w.heap.size w wb := on nba nbb
  have HA := Lib.hid ((xa.next nbb).next nbc)
  have HB := Lib.hid (xb.next nbc)
  have HBw := Lib.hid hB0
  have HS0 : Hid (SmA (w.heap.size + 1 + 1) I (.slice A I.cost.length C) W0 0 (.slice none 0 0) W0) := ⟨xc', World.ownsRow_nil _ _ _ _, Below.refl _ _⟩
  have H1 := Lib.hid h1
  have H2 := Lib.hid h2
  have HI := Lib.hid hi
  have HS := Lib.hid hs
  have hW1 : W0 = ((w.alloc (.cells #[.int .i64 I.kind, .int .i64 I.cap, .slice A0 I.items.length C0, .slice A I.cost.length C, .int .i64 I.size, .slice A2 I.sets.length C2] 27)).alloc (.cells #[.int .i64 J.kind, .int .i64 J.cap, .slice A3 J.items.length C3, .slice A4 J.cost.length C4, .int .i64 J.size, .slice A5 J.sets.length C5] 36)).alloc (.cells #[.int .i64 I.kind, .int .i64 I.cap, .slice none 0 0, .slice A I.cost.length C, .int .i64 I.size, .slice none 0 0] 36) := by rw [hW0, hwb, hwa]
  clear hwa hwb hW0 nba nbb nbc xa xb xc' hB0 hB1 h1 h2 hi hs hc ji jc js sa sb
  go_enter Tryd.func7, Tryd.ntmps7
  go_wp2
  rw [← hW1]
  clear hW1
  obtain ⟨bc, hbc⟩ : ∃ q, q = w.heap.size + 1 + 1 := ⟨_, rfl⟩
  rw [← hbc] at HS0 ⊢
  have hbc0 : w.heap.size < bc := by omega
  have hbc1 : w.heap.size + 1 < bc := by omega
  have hsc : bc < W0.heap.size := by omega
  clear hbc sc
  go_loopw [22, 7] (fun i _ wr => ∃ (k : Nat) (va : Value), k ≤ I.items.length ∧ i = .int .i64 (k : Nat) ∧ Hid (SmA bc I (.slice A I.cost.length C) W0 k va wr)) (fun i _ _ => I.items.length - (intOf i).toNat)
  case atStart => exact ⟨0, .slice none 0 0, by omega, rfl, HS0⟩
  case round =>
    obtain ⟨k, va, hk, rfl, hS⟩ := hrel
    have HBr := Lib.hid (HBw.out.trans (hS.out.be.mono (show w.heap.size ≤ bc by omega)))
    obtain ⟨d0, d1, d2, d3, d4, d5⟩ := hS.out.box.box
    have hbl := hS.out.box.lt
    by_cases hlt : k < I.items.length
    · obtain ⟨b, off, p, rfl, _, hb, hp, c0, c1⟩ := (HI.out.next HBr.out).get (i := k) hlt
      have c01 : (0 : Int) ≤ (k : Int) := by omega
      have c02 : (k : Int) < (I.items.length : Int) := by omega
      have HP := Lib.hid hp
      have HSN := Lib.hid ((hS.out.next (new_below wr (.cells #[.int .i64 p.1, .int .i64 p.2] 63))).next (new_below _ (.cells #[.int .i64 p.1, .int .i64 p.2] 64)))
      obtain ⟨A6, cp, rfl⟩ := own_sliceP hS.out.own
      clear hp hS
      go_wp2_with (at_builtin; refine wpList_append_lies _ rfl _ _ 33 rfl (bc + 1) 64 i0 (.agg #[.int .i64 0, .int .i64 0]) 2 16 Tryd.underlying33 hi0 hz01 hz02 hz03 rfl (by decide) _ _ _ rfl HSN.out.own ⟨wr.heap.size + 1, 0, none⟩ 1 1 [.int .i64 p.1, .int .i64 p.2] (by first | rfl | (simp; done)) rfl (World.news_of_block (by have := heap_alloc_new (wr.alloc (.cells #[.int .i64 p.1, .int .i64 p.2] 63)) (.cells #[.int .i64 p.1, .int .i64 p.2] 64); rw [World.size_alloc] at this; exact this)) (two_oneP _ _) (by omega) (by unfold maxLen; omega) (by omega) (by simp; omega) _ rfl ?_)
      intro g' cap' w8 hown' hgrow hat hlt8
      have HE := Lib.hid (HSN.out.step HP.out hown' hgrow)
      have hbk := HSN.out.box.keep (hgrow.block bc (by simp; omega) (fun e => by have := (HSN.out.own.lt _ e.symm).1; omega))
      have ow := hbk.box.c2
      have fw := hbk.free 2
      clear hbk hown' hgrow hat HSN HP d0 d1 d2 d3 d4 d5 c0 c1
      go_wp2
      go_roundw
      case rel => exact ⟨k + 1, _, by omega, by go_num, HE⟩
      case measure => simp [intOf]; omega
    · obtain rfl : k = I.items.length := by omega
      obtain ⟨x0, x1, x2, x3, x4, x5⟩ := (HA.out.below hS.out.be hbc0).box
      have hS' := hS.out
      have hOI := hS'.own
      rw [List.take_length] at hOI
      have HSB : Hid (SmB bc wr.heap.size I va (.slice A I.cost.length C) us W0 0 (.slice none 0 0) wr) := ⟨hS'.box, hOI, fun q hq => (hOI.lt q hq).2, World.ownsRow_nil _ _ _ _, hS'.be, by omega, Nat.le_refl _⟩
      clear hS hS' hOI d0 d1 d2 d3 d4 d5
      go_wp2
      obtain ⟨w2, hw2⟩ : ∃ q, q = wr := ⟨wr, rfl⟩
      subst hw2
      clear x0 x1 x2 x3 x4 x5
      go_loopw [40, 9] (fun i _ wr => ∃ (k : Nat) (vb : Value), k ≤ I.sets.length ∧ i = .int .i64 (k : Nat) ∧ Hid (SmB bc w2.heap.size I va (.slice A I.cost.length C) us W0 k vb wr)) (fun i _ _ => I.sets.length - (intOf i).toNat)
      case atStart => exact ⟨0, .slice none 0 0, by omega, rfl, HSB⟩
      case round =>
        obtain ⟨k, vb, hk, rfl, hS⟩ := hrel
        have HBs := Lib.hid (HBw.out.trans (hS.out.be.mono (show w.heap.size ≤ bc by omega)))
        obtain ⟨d0, d1, d2, d3, d4, d5⟩ := hS.out.box.box
        have hbl := hS.out.box.lt
        by_cases hlt : k < I.sets.length
        · obtain ⟨b, off, s, A7, C7, rfl, _, hb, hs, c0, c1, hu, _, _, _⟩ := (HS.out.next HBs.out).get (i := k) hlt
          have c01 : (0 : Int) ≤ (k : Int) := by omega
          have c02 : (k : Int) < (I.sets.length : Int) := by omega
          have HP := Lib.hid (And.intro hs hu)
          have HSN := Lib.hid ((hS.out.next (new_below wr (.cells #[.int .i64 s.1, .slice A7 s.2.length C7] 61))).next (new_below _ (.cells #[.int .i64 s.1, .slice A7 s.2.length C7] 65)))
          obtain ⟨A6, cp, rfl⟩ := own_sliceP hS.out.own
          have hle := hS.out.le
          have hbe := hS.out.sz
          have hul := HS.out.len
          clear hs hu hS
          go_wp2_with (at_builtin; refine wpList_append_lies _ rfl _ _ 34 rfl w2.heap.size 65 j0 (.agg #[.int .i64 0, .slice none 0 0]) 2 32 Tryd.underlying34 hj0 hy01 hy02 hy03 rfl (by decide) _ _ _ rfl HSN.out.own ⟨wr.heap.size + 1, 0, none⟩ 1 1 [.int .i64 s.1, .slice A7 s.2.length C7] (by first | rfl | (simp; done)) rfl (World.news_of_block (by have := heap_alloc_new (wr.alloc (.cells #[.int .i64 s.1, .slice A7 s.2.length C7] 61)) (.cells #[.int .i64 s.1, .slice A7 s.2.length C7] 65); rw [World.size_alloc] at this; exact this)) (by intro u hu; simp at hu; rcases hu with rfl | rfl <;> rfl) (by omega) (by unfold maxLen; omega) (by omega) (by simp; omega) _ rfl ?_)
          intro g' cap' w8 hown' hgrow hat hlt8
          have HE := Lib.hid (HSN.out.step HP.out.1 HP.out.2 hul hown' hgrow)
          have hbk := HSN.out.box.keep (hgrow.block bc (by simp; omega) (fun e => by have := (HSN.out.own.lt _ e.symm).1; omega))
          have ow := hbk.box.c5
          have fw := hbk.free 5
          clear hbk hown' hgrow hat HSN HP d0 d1 d2 d3 d4 d5 c0 c1
          go_wp2
          go_roundw
          case rel => exact ⟨k + 1, _, by omega, by go_num, HE⟩
          case measure => simp [intOf]; omega
        · obtain rfl : k = I.sets.length := by omega
          obtain ⟨x0, x1, x2, x3, x4, x5⟩ := (HB.out.below hS.out.be hbc1).box
          have hxl := (HB.out.below hS.out.be hbc1).lt
          have RQ := fun v1 (h : Ins (fun _ => True) (fun _ => True) wr v1 I) => requal_any _ _ _ _ I J _ _ wr h (H2.out.next HBs.out)
          have HC := Lib.hid (hS.out.ins H1.out HBs.out HS.out.len HS.out.rows)
          clear hS
          go_wp2_with fail
          with_reducible refine (RQ _ HC.out).mono ?_
          rintro e w9 ⟨rfl, b9⟩
          have HF := Lib.hid (on HBs.out b9)
          clear b9
          go_wp2
          go_ret
          exact ⟨rfl, HF.out⟩
end Go.Proofs.YtbadingdklenhaaDoor
