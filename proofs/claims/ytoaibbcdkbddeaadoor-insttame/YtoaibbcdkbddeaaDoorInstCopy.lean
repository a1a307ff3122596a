/-
  What package inst's Copy does (layer 9).
-/
import Derived.Test.YtoaibbcdkbddeaaDoorInstCopyKit
namespace Go.Proofs.YtoaibbcdkbddeaaDoor
set_option maxRecDepth 100000
open Go.RowKit

/-- What Copy answers. -/
def IsCopy (I : In) (w : World) (e : Ending) (w' : World) : Prop :=
  ∃ vi vc vs uc us m1 m2 m3 m4, e = .returned (inV I vi vc vs) ∧ OwnC w.heap.size m1 m2 m3 m4 w' vi vc vs I uc us ∧ Below w.heap.size w w'

set_option maxHeartbeats 2000000 in
theorem copy_any (F G : Nat → Prop) (I : In) (v : Value) (w : World) (h : Ins F G w v I) (hsm : I.Small) : Calls Tryd.prog 17 #[v] w (IsCopy I w) := by
  obtain ⟨vi, vc, vs, uc, us, rfl, hi, hc, hs⟩ := h.form
  have SC := hc.heads
  have SS := hs.heads
  obtain ⟨A0, C0, rfl, _, _⟩ := hi.form
  obtain ⟨A, C, rfl, _, _⟩ := hc.form
  obtain ⟨A2, C2, rfl, _, _⟩ := hs.form
  have O1 := fun W (a : Below w.heap.size w W) => ownItem_any _ (.slice A0 I.items.length C0) I.items.length (fl2 I.items) W (Lies.later hi a) (fl2_length _) fl2_one (by have := hsm.items; omega)
  have O2 := fun W (a : Below w.heap.size w W) => ownRows_any _ (.slice A I.cost.length C) I.cost.length uc W (Lies.later hc.lies a) (by rw [hc.len]; omega) (heads_one SC) (by have := hsm.cost; omega)
  have O3 := fun W (a : Below w.heap.size w W) => ownSet_any _ (.slice A2 I.sets.length C2) I.sets.length (flS I.sets us) W (Lies.later hs.lies a) (flS_length hs.len) (flS_one SS) (by have := hsm.sets; omega)
  have nb := (new_below w (.cells #[.int .i64 I.kind, .int .i64 I.cap, .slice A0 I.items.length C0, .slice A I.cost.length C, .int .i64 I.size, .slice A2 I.sets.length C2] 33)).alloc (by simp) (.cells #[.int .i64 0, .int .i64 0, .slice none 0 0, .slice none 0 0, .int .i64 0, .slice none 0 0] 33)
  have HX := Lib.hid ((iblk_new w (.int .i64 I.kind) (.int .i64 I.cap) (.slice A0 I.items.length C0) (.slice A I.cost.length C) (.int .i64 I.size) (.slice A2 I.sets.length C2) 33).next (new_below _ (.cells #[.int .i64 0, .int .i64 0, .slice none 0 0, .slice none 0 0, .int .i64 0, .slice none 0 0] 33)))
  have HY := Lib.hid (iblk_new (w.alloc (.cells #[.int .i64 I.kind, .int .i64 I.cap, .slice A0 I.items.length C0, .slice A I.cost.length C, .int .i64 I.size, .slice A2 I.sets.length C2] 33)) (.int .i64 0) (.int .i64 0) (.slice none 0 0) (.slice none 0 0) (.int .i64 0) (.slice none 0 0) 33)
  rw [World.size_alloc] at HY
  have HB := Lib.hid nb
  have HC := Lib.hid hc
  have HS := Lib.hid hs
  have HSM := Lib.hid hsm
  have hcl := hsm.cost
  have hsl := hsm.sets
  clear h hi hc hs nb SC SS hsm
  unfold IsCopy
  go_enter Tryd.func17, Tryd.ntmps17
  go_wp2_with fail
  with_reducible refine (O1 _ HB.out).mono ?_
  rintro e w1 ⟨A1, C1, rfl, own1, b1, hc1, hc1'⟩
  have X1 := HX.out.next b1
  have Y1 := HY.out.next b1
  have HB1 := Lib.hid (on HB.out b1)
  have HI1 : Hid (w1.ownsRow (w.heap.size + 1 + 1) 52 2 (.slice A1 I.items.length C1) I.items.length (fl2 I.items)) := by
    have := own1
    rw [World.size_alloc, World.size_alloc] at this
    exact this
  obtain ⟨x0, x1, x2, x3, x4, x5⟩ := X1.box
  have f2 := X1.free 2
  have hxl := X1.lt
  have X2 := Lib.hid (X1.set2 (.slice A1 I.items.length C1))
  have Y2 := Lib.hid (Y1.other (a := ⟨w.heap.size, 2, none⟩) (by show _ ≠ w.heap.size; omega) (.slice A1 I.items.length C1))
  have HB2 := Lib.hid (HB1.out.setCell (p := ⟨w.heap.size, 2, none⟩) (Nat.le_refl _) (.slice A1 I.items.length C1))
  have HI2 := Lib.hid (ownsRow_setCell_below (a := ⟨w.heap.size, 2, none⟩) HI1.out (by show w.heap.size < _; omega) (.slice A1 I.items.length C1))
  clear own1 b1 X1 Y1 HX HY HB O1 HB1 HI1
  go_wp2_with fail
  with_reducible refine (O2 _ HB2.out).mono ?_
  rintro e w3 ⟨A3, C3, rfl, own2, b2, hc2, hc2'⟩
  have hM : w.heap.size + 1 + 1 ≤ (w1.setCell ⟨w.heap.size, 2, none⟩ (.slice A1 I.items.length C1)).heap.size := by have := Y2.out.lt; omega
  have X3 := X2.out.next b2
  have Y3 := Y2.out.next b2
  have HB3 := Lib.hid (on HB2.out b2)
  have HI3 := Lib.hid (own_next HI2.out b2)
  have HIL : Hid (∀ q, (Value.slice A1 I.items.length C1).ownBlock = some q → q < (w1.setCell ⟨w.heap.size, 2, none⟩ (.slice A1 I.items.length C1)).heap.size) := fun q hq => (HI2.out.lt q hq).2
  obtain ⟨M1, hM1⟩ : ∃ M, M = (w1.setCell ⟨w.heap.size, 2, none⟩ (.slice A1 I.items.length C1)).heap.size := ⟨_, rfl⟩
  rw [← hM1] at own2 hM HIL b2
  have hM12 := b2.size
  rw [← hM1] at hM12
  clear x0 x1 x2 x3 x4 x5 f2 hxl hM1 X2 Y2 HB2 HI2 O2 b2
  obtain ⟨x0, x1, x2, x3, x4, x5⟩ := X3.box
  have f3 := X3.free 3
  have X4 := Lib.hid (X3.set3 (.slice A3 I.cost.length C3))
  have Y4 := Lib.hid (Y3.other (a := ⟨w.heap.size, 3, none⟩) (by show _ ≠ w.heap.size; omega) (.slice A3 I.cost.length C3))
  have HB4 := Lib.hid (HB3.out.setCell (p := ⟨w.heap.size, 3, none⟩) (Nat.le_refl _) (.slice A3 I.cost.length C3))
  have HI4 := Lib.hid (ownsRow_setCell_below (a := ⟨w.heap.size, 3, none⟩) HI3.out (by show w.heap.size < _; omega) (.slice A3 I.cost.length C3))
  have HR4 : Hid (RowsTo M1 w3.heap.size I.cost uc (.slice A3 I.cost.length C3) 0 uc (w3.setCell ⟨w.heap.size, 3, none⟩ (.slice A3 I.cost.length C3))) :=
    ⟨ownsRow_setCell_below (a := ⟨w.heap.size, 3, none⟩) own2 (by show w.heap.size < _; omega) _, fun q hq => (own2.lt q hq).2, fun _ _ _ a => by omega, fun _ _ => rfl⟩
  have hm2 : w3.heap.size ≤ (w3.setCell ⟨w.heap.size, 3, none⟩ (.slice A3 I.cost.length C3)).heap.size := by simp [World.setCell]
  obtain ⟨M2, hM2⟩ : ∃ M, M = w3.heap.size := ⟨_, rfl⟩
  rw [← hM2] at HR4 hM12 hm2
  have HM2 := Lib.hid hm2
  clear hM2 own2 X3 Y3 HB3 HI3 hm2
  go_wp2
  obtain ⟨w4, hw4⟩ : ∃ q, q = w3.setCell ⟨w.heap.size, 3, none⟩ (.slice A3 I.cost.length C3) := ⟨_, rfl⟩
  rw [← hw4] at X4 Y4 HB4 HI4 HR4 HM2 ⊢
  clear hw4 x0 x1 x2 x3 x4 x5 f3
  go_loopw [18] (fun i wr => ∃ (k : Nat) (hs : List Value), k ≤ I.cost.length ∧ i = .int .i64 (k : Nat) ∧ Hid (RowsTo M1 M2 I.cost uc (.slice A3 I.cost.length C3) k hs wr) ∧ Hid (Below M1 w4 wr)) (fun i _ => I.cost.length - (intOf i).toNat)
  case atStart => exact ⟨0, uc, by omega, rfl, HR4, Below.refl _ _⟩
  case round =>
    obtain ⟨k, hs, hk, rfl, hR, hB⟩ := hrel
    have X5 := X4.out.below hB.out (by omega)
    obtain ⟨x0, x1, x2, x3, x4, x5⟩ := X5.box
    have hx5 := X5.lt
    have HBr := Lib.hid (HB4.out.trans (hB.out.mono (show w.heap.size ≤ M1 by omega)))
    have hMr : M2 ≤ wr.heap.size := Nat.le_trans HM2.out hB.out.size
    by_cases hlt : k < I.cost.length
    · obtain ⟨g, cap, eA, hgm, _⟩ := hR.out.outer.form (by omega)
      obtain ⟨rfl, rfl⟩ : A3 = some ⟨g, 0, none⟩ ∧ C3 = cap := by simpa using eA
      have hgl := hR.out.lt g rfl
      -- the row as it came in
      have hrk : I.cost[k]? = some (I.cost[k]'hlt) := List.getElem?_eq_getElem hlt
      generalize hrr : I.cost[k]'hlt = r at hrk
      clear hrr
      have huk : uc[k]? = some (uc[k]'(by rw [HC.out.len]; exact hlt)) := List.getElem?_eq_getElem _
      generalize hvv : uc[k]'(by rw [HC.out.len]; exact hlt) = vk at huk
      clear hvv
      have hIk := HC.out.rows k r vk hrk huk
      obtain ⟨Ak, Ck, rfl, hCk, hMk⟩ := hIk.form
      have c0 : wr.cell? ⟨g, k, none⟩ = some (.slice Ak r.length Ck) := by
        rw [hR.out.outer.cellAt k (by omega), hR.out.old k (Nat.le_refl _)]; exact huk
      have hrl := HSM.out.rows r (List.mem_of_getElem? hrk)
      have OW := fun W (a : Below w.heap.size w W) => own64_any _ (.slice Ak r.length Ck) r.length (nl r) W (Lies.later hIk a) (by rw [nl_length]; omega) nl_one (by omega)
      have HRK := Lib.hid hrk
      have HRR := hR
      have HBB := hB
      have c01 : (0 : Int) ≤ (k : Int) := by omega
      have c02 : (k : Int) < (I.cost.length : Int) := by omega
      have HF : Hid (∀ q, wr.frozen? ⟨g, q, none⟩ = false) := fun q => hR.out.outer.frozenAt q
      have hgs : g < wr.heap.size := by omega
      clear hR hB hrk huk hIk hrl
      go_wp2
      go_region_held3 (fun w' => w'.cell? ⟨w.heap.size, 3, none⟩ = some (.slice (some ⟨g, 0, none⟩) I.cost.length C3)) (first | exact x3 | exact y3 | exact z3 _)
        (first
          | (go_at_call 33; (with_reducible refine (OW _ HBr.out.drew).mono ?_); rintro e wn ⟨An, Cn, rfl, ownn, bn, _, _⟩
             have HON := Lib.hid ownn
             have HBN := Lib.hid bn
             have y3 := (HBN.out.cell (p := ⟨w.heap.size, 3, none⟩) hx5).trans x3
             have gc := (HBN.out.cell (p := ⟨g, k, none⟩) hgs).trans c0
             have gf := (HBN.out.frozen (p := ⟨g, k, none⟩) hgs).trans (HF.out k)
             have z3 := fun v => (World.cell?_of_block (Below.heap_setCell wn ⟨g, k, none⟩ v w.heap.size (by show w.heap.size ≠ g; omega))).trans y3
             clear ownn bn))
      have B6 := on ((Below.refl wr.heap.size wr).drew) HBN.out
      have HRN := Lib.hid (HRR.out.step HRK.out hMr B6 HON.out)
      have HBM := Lib.hid (((HBB.out.trans (B6.mono (Nat.le_trans (by omega) hMr))).setCell (p := ⟨g, k, none⟩) hgm (.slice An r.length Cn)))
      clear B6 HON HBN y3 gc gf z3 c0 x0 x1 x2 x3 x4 x5
      go_wp2
      go_roundw
      case rel => exact ⟨k + 1, _, by omega, by go_num, HRN, HBM⟩
      case measure => simp [intOf]; omega
    · obtain rfl : k = I.cost.length := by omega
      have HR5 := Lib.hid hR.out
      have HX5 := Lib.hid X5
      have HY5 := Lib.hid (Y4.out.below hB.out (by omega))
      have HI5 := Lib.hid (own_below HI4.out HIL.out hB.out)
      have HUL : Hid (∀ (i : Nat) v, hs[i]? = some v → ∀ q, v.ownBlock = some q → q < wr.heap.size) := by
        intro i v hv q hq
        obtain ⟨hi, _⟩ := List.getElem?_eq_some_iff.1 hv
        have hil : i < I.cost.length := by rw [← hR.out.len]; exact hi
        exact ((hR.out.new i _ v hil (List.getElem?_eq_getElem hil) hv).lt q hq).2
      clear hR hB X5 X4 Y4 HI4 HR4 HB4 HC
      go_wp2_with fail
      with_reducible refine (O3 _ HBr.out).mono ?_
      rintro e w6 ⟨A6, C6, rfl, own6, b6, hc6, hc6'⟩
      have X6 := HX5.out.next b6
      have Y6 := HY5.out.next b6
      have HR6 := Lib.hid (HR5.out.next b6)
      have HI6 := Lib.hid (own_next HI5.out b6)
      have HB6 := Lib.hid (on HBr.out b6)
      have hM3 := b6.size
      clear x0 x1 x2 x3 x4 x5 b6 HX5 HY5 HR5 HI5
      obtain ⟨M3, hM3'⟩ : ∃ M, M = wr.heap.size := ⟨_, rfl⟩
      rw [← hM3'] at own6 hM3 hMr HUL
      clear hM3' hx5
      obtain ⟨x0, x1, x2, x3, x4, x5⟩ := X6.box
      have f5 := X6.free 5
      have hx6 := X6.lt
      have X7 := Lib.hid (X6.set5 (.slice A6 I.sets.length C6))
      have Y7 := Lib.hid (Y6.other (a := ⟨w.heap.size, 5, none⟩) (by show _ ≠ w.heap.size; omega) (.slice A6 I.sets.length C6))
      have HB7 := Lib.hid (HB6.out.setCell (p := ⟨w.heap.size, 5, none⟩) (Nat.le_refl _) (.slice A6 I.sets.length C6))
      have HI7 := Lib.hid (ownsRow_setCell_below (a := ⟨w.heap.size, 5, none⟩) HI6.out (by show w.heap.size < _; omega) (.slice A6 I.sets.length C6))
      have HR7 : Hid (RowsTo M1 M2 I.cost hs (.slice A3 I.cost.length C3) I.cost.length hs (w6.setCell ⟨w.heap.size, 5, none⟩ (.slice A6 I.sets.length C6))) :=
        ⟨ownsRow_setCell_below (a := ⟨w.heap.size, 5, none⟩) HR6.out.outer (by show w.heap.size < _; omega) _, HR6.out.lt, fun i r v a b c => ownsRow_setCell_below (a := ⟨w.heap.size, 5, none⟩) (HR6.out.new i r v a b c) (by show w.heap.size < _; omega) _, fun _ _ => rfl⟩
      have HS7 : Hid (SetsTo M3 w6.heap.size I.sets us (.slice A6 I.sets.length C6) 0 us (w6.setCell ⟨w.heap.size, 5, none⟩ (.slice A6 I.sets.length C6))) :=
        ⟨ownsRow_setCell_below (a := ⟨w.heap.size, 5, none⟩) own6 (by show w.heap.size < _; omega) _, HS.out.len, fun q hq => (own6.lt q hq).2, fun _ _ _ a => by omega, fun _ _ => rfl⟩
      have hm4 : w6.heap.size ≤ (w6.setCell ⟨w.heap.size, 5, none⟩ (.slice A6 I.sets.length C6)).heap.size := by simp [World.setCell]
      clear own6 X6 Y6 HB6 HI6 HR6
      obtain ⟨M4, hM4⟩ : ∃ M, M = w6.heap.size := ⟨_, rfl⟩
      rw [← hM4] at HS7 hM3 hm4
      have HM4 := Lib.hid hm4
      clear hM4 hm4
      go_wp2
      obtain ⟨w7, hw7⟩ : ∃ q, q = w6.setCell ⟨w.heap.size, 5, none⟩ (.slice A6 I.sets.length C6) := ⟨_, rfl⟩
      rw [← hw7] at X7 Y7 HB7 HI7 HR7 HS7 HM4 ⊢
      clear hw7 x0 x1 x2 x3 x4 x5 f5 hx6
      go_loopw [37, 6] (fun i _ wr => ∃ (k : Nat) (us' : List Value), k ≤ I.sets.length ∧ i = .int .i64 (k : Nat) ∧ Hid (SetsTo M3 M4 I.sets us (.slice A6 I.sets.length C6) k us' wr) ∧ Hid (Below M3 w7 wr)) (fun i _ _ => I.sets.length - (intOf i).toNat)
      case atStart => exact ⟨0, us, by omega, rfl, HS7, Below.refl _ _⟩
      case round =>
        obtain ⟨k, us', hk, rfl, hR, hB⟩ := hrel
        have X8 := X7.out.below hB.out (by omega)
        obtain ⟨x0, x1, x2, x3, x4, x5⟩ := X8.box
        have hx8 := X8.lt
        have HBr := Lib.hid (HB7.out.trans (hB.out.mono (show w.heap.size ≤ M3 by omega)))
        have hMr4 : M4 ≤ wr.heap.size := Nat.le_trans HM4.out hB.out.size
        by_cases hlt : k < I.sets.length
        · obtain ⟨g, cap, eA, hgm, _⟩ := hR.out.outer.form (by omega)
          obtain ⟨rfl, rfl⟩ : A6 = some ⟨g, 0, none⟩ ∧ C6 = cap := by simpa using eA
          have hgl := hR.out.lt g rfl
          have hrk : I.sets[k]? = some (I.sets[k]'hlt) := List.getElem?_eq_getElem hlt
          generalize hrr : I.sets[k]'hlt = s at hrk
          clear hrr
          have huk : us[k]? = some (us[k]'(by rw [HS.out.len]; exact hlt)) := List.getElem?_eq_getElem _
          generalize hvv : us[k]'(by rw [HS.out.len]; exact hlt) = vk at huk
          clear hvv
          have hIk := HS.out.rows k s vk hrk huk
          obtain ⟨Ak, Ck, rfl, hCk, hMk⟩ := hIk.form
          have hfl := flS_get hrk ((hR.out.old k (Nat.le_refl _)).trans huk)
          have c0 : wr.cell? ⟨g, k * 2, none⟩ = some (.int .i64 s.1) := by rw [hR.out.outer.cellAt (k * 2) (by omega)]; exact hfl.1
          have c1 : wr.cell? ⟨g, k * 2 + 1, none⟩ = some (.slice Ak s.2.length Ck) := by rw [hR.out.outer.cellAt (k * 2 + 1) (by omega)]; exact hfl.2
          have hrl := HSM.out.elems s (List.mem_of_getElem? hrk)
          have OW := fun W (a : Below w.heap.size w W) => ownInt_any _ (.slice Ak s.2.length Ck) s.2.length (nl s.2) W (Lies.later hIk a) (by rw [nl_length]; omega) nl_one (by omega)
          have HRK := Lib.hid hrk
          have nbx := new_below wr (.cells #[.int .i64 s.1, .slice Ak s.2.length Ck] 56)
          have HRR := Lib.hid (hR.out.next nbx)
          have HBB := Lib.hid (hB.out.trans (nbx.mono (show M3 ≤ wr.heap.size by omega)))
          have HBs := Lib.hid (HBr.out.trans (nbx.mono (show w.heap.size ≤ wr.heap.size by omega)))
          have c01 : (0 : Int) ≤ (k : Int) := by omega
          have c02 : (k : Int) < (I.sets.length : Int) := by omega
          have HF : Hid (∀ q, wr.frozen? ⟨g, q, none⟩ = false) := fun q => hR.out.outer.frozenAt q
          have hgs : g < wr.heap.size := by omega
          have e1 : (wr.alloc (.cells #[.int .i64 s.1, .slice Ak s.2.length Ck] 56)).cell? ⟨wr.heap.size, 1, none⟩ = some (.slice Ak s.2.length Ck) := by
            unfold World.cell?
            simp only [heap_alloc_new]
            rfl
          have xa5 := (nbx.cell (p := ⟨w.heap.size, 5, none⟩) hx8).trans x5
          have ca1 := (nbx.cell (p := ⟨g, k * 2 + 1, none⟩) hgs).trans c1
          have fa1 := (nbx.frozen (p := ⟨g, k * 2 + 1, none⟩) hgs).trans (HF.out (k * 2 + 1))
          have HXA := Lib.hid xa5
          have HCA := Lib.hid ca1
          have HFA := Lib.hid fa1
          have HE1 := Lib.hid e1
          clear hR hB hrk huk hIk hrl hfl nbx xa5 ca1 fa1 e1
          go_wp2
          go_region_held3 (fun w' => w'.cell? ⟨w.heap.size, 5, none⟩ = some (.slice (some ⟨g, 0, none⟩) I.sets.length C6) ∧ w'.cell? ⟨wr.heap.size, 1, none⟩ = some (.slice Ak s.2.length Ck)) (first | exact ⟨HXA.out, HE1.out⟩ | exact ⟨y5, ye⟩ | exact ⟨z5 _, ze _⟩)
            (first
              | (go_at_call 35; (with_reducible refine (OW _ HBs.out.drew).mono ?_); rintro e wn ⟨An, Cn, rfl, ownn, bn, _, _⟩
                 have HON := Lib.hid ownn
                 have HBN := Lib.hid (on ((Below.refl _ (wr.alloc (.cells #[.int .i64 s.1, .slice Ak s.2.length Ck] 56))).drew) bn)
                 have hsz : wr.heap.size < (wr.alloc (.cells #[.int .i64 s.1, .slice Ak s.2.length Ck] 56)).heap.size := by simp
                 have y5 := (HBN.out.cell (p := ⟨w.heap.size, 5, none⟩) (Nat.lt_trans hx8 hsz)).trans HXA.out
                 have ye := (HBN.out.cell (p := ⟨wr.heap.size, 1, none⟩) hsz).trans HE1.out
                 have gc := (HBN.out.cell (p := ⟨g, k * 2 + 1, none⟩) (Nat.lt_trans hgs hsz)).trans HCA.out
                 have gf := (HBN.out.frozen (p := ⟨g, k * 2 + 1, none⟩) (Nat.lt_trans hgs hsz)).trans HFA.out
                 have z5 := fun v => (World.cell?_of_block (Below.heap_setCell wn ⟨g, k * 2 + 1, none⟩ v w.heap.size (by show w.heap.size ≠ g; omega))).trans y5
                 have ze := fun v => (World.cell?_of_block (Below.heap_setCell wn ⟨g, k * 2 + 1, none⟩ v wr.heap.size (by show wr.heap.size ≠ g; omega))).trans ye
                 clear ownn bn))
          have hsz : M4 ≤ (wr.alloc (.cells #[.int .i64 s.1, .slice Ak s.2.length Ck] 56)).heap.size := by simp; omega
          have HRN := Lib.hid (HRR.out.step HRK.out hsz HBN.out HON.out)
          have HBM := Lib.hid (((HBB.out.trans (HBN.out.mono (Nat.le_trans (by omega) hsz))).setCell (p := ⟨g, k * 2 + 1, none⟩) hgm (.slice An s.2.length Cn)))
          clear HON HBN y5 ye gc gf z5 ze c0 c1 x0 x1 x2 x3 x4 x5
          go_wp2
          go_roundw
          case rel => exact ⟨k + 1, _, by omega, by go_num, HRN, HBM⟩
          case measure => simp [intOf]; omega
        · obtain rfl : k = I.sets.length := by omega
          have Y8 := Y7.out.below hB.out (by omega)
          have fy := fun o => Y8.free o
          obtain ⟨y0, y1, y2, y3, y4, y5⟩ := Y8.box
          have HE : Hid (OwnC (w.heap.size + 1 + 1) M1 M2 M3 M4 wr (.slice A1 I.items.length C1) (.slice A3 I.cost.length C3) (.slice A6 I.sets.length C6) I hs us') :=
            ⟨(own_below HI7.out (fun q hq => Nat.lt_of_lt_of_le (HIL.out q hq) (by omega)) hB.out), HIL.out,
              ⟨own_below HR7.out.outer (fun q hq => Nat.lt_of_lt_of_le (HR7.out.lt q hq) hMr) hB.out, HR7.out.lt, fun i r v a b c => own_below (HR7.out.new i r v a b c) (HUL.out i v c) hB.out, fun _ _ => rfl⟩,
              HUL.out, ⟨hR.out.outer, hR.out.len, hR.out.lt, hR.out.new, fun _ _ => rfl⟩, by omega, hM12, hMr, hM3⟩
          clear hR hB X8 Y8
          go_wp2
          have lo : (w.heap.size + 1) < w.heap.size + 1 + 1 := by omega
          have hi : w.heap.size ≤ w.heap.size + 1 := by omega
          refine bodyPost_ret (v := .agg #[.int .i64 I.kind, .int .i64 I.cap, .slice A1 I.items.length C1, .slice A3 I.cost.length C3, .int .i64 I.size, .slice A6 I.sets.length C6]) (by simp [results, Tryd.results17, go_sem, y0, y1, y2, y3, y4, y5]) rfl ?_
          exact ⟨.slice A1 I.items.length C1, .slice A3 I.cost.length C3, .slice A6 I.sets.length C6, hs, us', M1, M2, M3, M4, rfl, ((((((HE.out.low (a := ⟨_, _, _⟩) lo _).low (a := ⟨_, _, _⟩) lo _).low (a := ⟨_, _, _⟩) lo _).low (a := ⟨_, _, _⟩) lo _).low (a := ⟨_, _, _⟩) lo _).low (a := ⟨_, _, _⟩) lo _).mono (by omega), ((((((HBr.out.setCell (p := ⟨_, _, _⟩) hi _).setCell (p := ⟨_, _, _⟩) hi _).setCell (p := ⟨_, _, _⟩) hi _).setCell (p := ⟨_, _, _⟩) hi _).setCell (p := ⟨_, _, _⟩) hi _).setCell (p := ⟨_, _, _⟩) hi _)⟩
end Go.Proofs.YtoaibbcdkbddeaaDoor
