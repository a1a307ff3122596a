/-
  What the laws' tame makes of a cover (layer 9).
-/
import Derived.Test.YtbadingdklenhaaGreatDoorL11Tm
import Derived.Test.YtbadingdklenhaaGreatDoorL11TameK9
import Derived.Test.YtbadingdklenhaaGreatDoorL11TameQ9
namespace Go.Proofs.YtbadingdklenhaaGreatDoor
set_option maxRecDepth 100000
open Go.RowKit

theorem info_lset : ∃ i, Tryz.prog.info? 67 = some i ∧ i.zero = some (.agg #[.int .i64 0, .slice none 0 0]) ∧ i.size = 2 ∧ i.bytes = 32 := info_of (by kernel_rfl)
theorem ris_more : ∀ (s m : Int) (l : List Int), ris s m l = true → ris (s + 1) m l = true
  | _, _, [], _ => rfl
  | s, m, x :: r, h => by
    unfold ris at h ⊢
    simp only [Bool.and_eq_true, decide_eq_true_eq] at h ⊢
    exact ⟨⟨h.1.1, by omega⟩, ris_more s (x + 1) r h.2⟩
theorem ris_snoc : ∀ (s m : Int) (l : List Int), m ≤ s → ris s m l = true → ris (s + 1) m (l ++ [s]) = true
  | s, m, [], hm, _ => by
    show ris (s + 1) m [s] = true
    unfold ris ris
    simp only [Bool.and_eq_true, decide_eq_true_eq]
    exact ⟨⟨hm, by omega⟩, trivial⟩
  | s, m, x :: r, hm, h => by
    show ris (s + 1) m (x :: (r ++ [s])) = true
    unfold ris at h ⊢
    simp only [Bool.and_eq_true, decide_eq_true_eq] at h ⊢
    exact ⟨⟨h.1.1, by omega⟩, ris_snoc s (x + 1) r (by omega) h.2⟩
/-- The sets so far. -/
structure StS (O B : Nat) (Z : Nat) (W0 : World) (k : Nat) (va : Value) (us : List Value) (S : List (Int × List Int)) (wr : World) : Prop where
  mk ::
  box : IBlk O 26 (.int .i64 3) (.int .i64 0) (.slice none 0 0) (.slice none 0 0) (.int .i64 (Z : Int)) va wr
  own : wr.ownsRow B 67 2 va k (flS S us)
  len : us.length = k
  lenS : S.length = k
  rows : ∀ (j : Nat) (s : Int × List Int) (u : Value), S[j]? = some s → us[j]? = some u → Ints (fun q => B ≤ q ∧ va.ownBlock ≠ some q) wr u s.2
  amts : ∀ s ∈ S, amt s.1 = true
  up : ∀ s ∈ S, ris (Z : Int) 0 s.2 = true ∧ s.2.length ≤ 8
  be : Keeps O O B W0 wr
/-- The set that is being made: sb: its variable. -/
structure StE (sb : Nat) (c : Int) (j : Nat) (W : World) (ve : Value) (els : List Int) (wr : World) : Prop where
  mk ::
  cells : wr.heap[sb]? = some (.cells #[.int .i64 c, ve] 67 (0, 0))
  own : wr.ownsRow (sb + 1) 3 1 ve els.length (nl els)
  up : ris (j : Int) 0 els = true
  len : els.length ≤ j
  be : Keeps sb sb (sb + 1) W wr
theorem StE.skip {sb j : Nat} {c : Int} {W : World} {ve : Value} {els : List Int} {wr : World} (h : StE sb c j W ve els wr) : StE sb c (j + 1) W ve els wr :=
  ⟨h.cells, h.own, by have := ris_more _ _ _ h.up; rwa [show ((j + 1 : Nat) : Int) = (j : Int) + 1 by omega], by have := h.len; omega, h.be⟩
theorem StE.step {sb j : Nat} {c : Int} {W : World} {ve : Value} {els : List Int} {wr w1 : World} {lit : Obj} {g cap : Nat} (h : StE sb c j W ve els wr)
    (ho : w1.ownsRow (sb + 1) 3 1 (.slice (some ⟨g, 0, none⟩) (els.length + 1) cap) (els.length + 1) (nl els ++ [.int .i64 (j : Int)])) (hg : (wr.alloc lit).grownBy w1 ve.ownBlock) :
    StE sb c (j + 1) W (.slice (some ⟨g, 0, none⟩) (els.length + 1) cap) (els ++ [(j : Int)]) (w1.setCell ⟨sb, 1, none⟩ (.slice (some ⟨g, 0, none⟩) (els.length + 1) cap)) := by
  have nb := new_below wr lit
  have hlt := h.own.lt
  have hsl := lt_of_block h.cells
  have hws := h.be.size
  have e1 : w1.heap[sb]? = some (.cells #[.int .i64 c, ve] 67 (0, 0)) := (hg.block sb (by rw [World.size_alloc]; omega) (fun q => by have := (hlt _ q.symm).1; omega)).trans ((nb.block _ hsl).trans h.cells)
  refine ⟨heap_setCell_same w1 sb 1 _ _ _ e1, ?_, ?_, by rw [List.length_append]; have := h.len; simp; omega, ((h.be.next (by omega) nb).grown (by rw [World.size_alloc]; omega) hg (fun q hq => (hlt q hq).1)).store (.inl rfl) _⟩
  · rw [List.length_append, nl_append]
    exact ownsRow_setCell_below (a := ⟨sb, 1, none⟩) ho (by show sb < sb + 1; omega) _
  · have := ris_snoc (j : Int) 0 els (by omega) h.up
    rwa [show ((j + 1 : Nat) : Int) = (j : Int) + 1 by omega]
theorem Lies.ltS {F : Nat → Prop} {w : World} {u : Value} {n : Nat} {cs : List Value} (h : Lies F w u n cs) : Lies (fun q => F q ∧ q < w.heap.size) w u n cs := by
  obtain ⟨A, C, h1, h2, h3, h4⟩ := h
  refine ⟨A, C, h1, h2, h3, fun h0 => ?_⟩
  obtain ⟨b, off, h5, h6, h7, h8⟩ := h4 h0
  exact ⟨b, off, h5, ⟨h6, h7⟩, h7, h8⟩
theorem StS.step {O B Z k : Nat} {W0 wo wr w1 : World} {va ve : Value} {us : List Value} {S : List (Int × List Int)} {c : Int} {els : List Int} {g cap : Nat} {lit : Obj} (h : StS O B Z W0 k va us S wo) (hB : B ≤ wo.heap.size) (hO : O < B) (hb : Below wo.heap.size wo wr) (hv : Ints (fun q => wo.heap.size ≤ q) wr ve els) (hc : amt c = true) (hr : ris (Z : Int) 0 els = true) (hl : els.length ≤ 8)
    (ho : w1.ownsRow B 67 2 (.slice (some ⟨g, 0, none⟩) (k + 1) cap) (k + 1) (flS S us ++ [.int .i64 c, ve])) (hg : (wr.alloc lit).grownBy w1 va.ownBlock) (hat : va.ownBlock = some g ∨ g = wr.heap.size + 1) :
    StS O B Z W0 (k + 1) (.slice (some ⟨g, 0, none⟩) (k + 1) cap) (us ++ [ve]) (S ++ [(c, els)]) (w1.setCell ⟨O, 5, none⟩ (.slice (some ⟨g, 0, none⟩) (k + 1) cap)) := by
  have nb := new_below wr lit
  have b1 : Below wo.heap.size wo (wr.alloc lit) := hb.trans (nb.mono hb.size)
  have hlt := h.own.lt
  have hsz := hb.size
  have ga : ∀ q, q < wr.heap.size → va.ownBlock ≠ some q → g ≠ q := by
    intro q hq hn e
    subst e
    rcases hat with q1 | q1
    · exact hn q1
    · omega
  have X1 := (h.box.next b1).keep (hg.block O (Nat.lt_of_lt_of_le (by omega) b1.size) (fun q => by have := (hlt O q.symm).1; omega))
  have hws : (wr.alloc lit).heap.size ≤ (w1.setCell ⟨O, 5, none⟩ (.slice (some ⟨g, 0, none⟩) (k + 1) cap)).heap.size := by
    simp only [World.setCell, Array.size_modify]
    exact hg.size
  have kp : ∀ b, b < wr.heap.size → b ≠ O → va.ownBlock ≠ some b → (w1.setCell ⟨O, 5, none⟩ (.slice (some ⟨g, 0, none⟩) (k + 1) cap)).heap[b]? = wr.heap[b]? := fun b h1 h2 h3 =>
    (Below.heap_setCell w1 ⟨O, 5, none⟩ _ b h2).trans ((hg.block b (by rw [World.size_alloc]; omega) (fun e => h3 e.symm)).trans (nb.block b h1))
  have el : us.length = S.length := by rw [h.len, h.lenS]
  refine ⟨X1.set5 _, by rw [flS_append el]; exact ownsRow_setCell_below (a := ⟨O, 5, none⟩) ho hO _, by rw [List.length_append, h.len]; rfl, by rw [List.length_append, h.lenS]; rfl, fun j q u hq hu => ?_, fun q hq => ?_, fun q hq => ?_, ((h.be.next hB b1).grown (Nat.le_trans hB b1.size) hg (fun q hq => (hlt q hq).1)).store (.inl rfl) _⟩
  · by_cases hj : j < k
    · rw [List.getElem?_append_left (by rw [h.lenS]; exact hj)] at hq
      rw [List.getElem?_append_left (by rw [h.len]; exact hj)] at hu
      have hh := Lies.ltS (h.rows j q u hq hu)
      refine Lies.imp (Lies.held hh ⟨Nat.le_trans b1.size hws, fun b hb' _ => ?_⟩) (fun b hb' => ⟨hb'.1.1, fun e => ga b (by omega) hb'.1.2 (by simpa [Value.ownBlock] using e)⟩)
      exact (kp b (by omega) (by omega) hb'.1.2).trans (hb.block b hb'.2)
    · obtain ⟨hjl, _⟩ := List.getElem?_eq_some_iff.1 hq
      rw [List.length_append, h.lenS] at hjl
      obtain rfl : j = k := by simp at hjl; omega
      rw [List.getElem?_append_right (by rw [h.lenS]; exact Nat.le_refl _), h.lenS, Nat.sub_self] at hq
      rw [List.getElem?_append_right (by rw [h.len]; exact Nat.le_refl _), h.len, Nat.sub_self] at hu
      obtain rfl : (c, els) = q := by simpa using hq
      obtain rfl := Option.some.inj hu
      have nv : ∀ b, wo.heap.size ≤ b → va.ownBlock ≠ some b := fun b hb' e => by have := (hlt b e).2; omega
      have hh := Lies.ltS hv
      refine Lies.imp (Lies.held hh ⟨Nat.le_trans nb.size hws, fun b hb' _ => ?_⟩) (fun b hb' => ⟨by omega, fun e => ga b hb'.2 (nv b hb'.1) (by simpa [Value.ownBlock] using e)⟩)
      exact kp b hb'.2 (by omega) (nv b hb'.1)
  · rcases List.mem_append.1 hq with q1 | q1
    · exact h.amts q q1
    · obtain rfl : q = (c, els) := by simpa using q1
      exact hc
  · rcases List.mem_append.1 hq with q1 | q1
    · exact h.up q q1
    · obtain rfl : q = (c, els) := by simpa using q1
      exact ⟨hr, hl⟩

set_option maxHeartbeats 2000000 in
theorem tameS_any (I : In) (v : Value) (w : World) (h : Ins (fun _ => True) (fun _ => True) w v I) (hk : (I.kind.tmod 4 + 4).tmod 4 = 3) : Calls Tryz.prog 7 #[v, .int .i64 9] w (IsTame w) := by
  unfold IsTame
  obtain ⟨vi, vc, vs, uc, us0, rfl, hi, hc, hs⟩ := h.form
  obtain ⟨A0, C0, rfl, k0, m0⟩ := hi.form
  obtain ⟨A, C, rfl, k1, m1⟩ := hc.form
  obtain ⟨A2, C2, rfl, k2, m2⟩ := hs.form
  unfold maxLen at m0 m1 m2
  obtain ⟨tt1, tt2, tt3, tt4, tt5⟩ := info_int
  obtain ⟨ss1, ss2, ss3, ss4, ss5⟩ := info_lset
  have wk := kind_wrap I.kind
  obtain ⟨K1, hK1⟩ : ∃ K1, wrap64 (I.kind.tmod 4 + 4) = K1 := ⟨_, rfl⟩
  have hK0 : K1.tmod 4 = 3 := by rw [← hK1, wk]; exact hk
  have CL := clamp_any
  have HI := Lib.hid hs
  obtain ⟨L, eL⟩ : ∃ L, min I.sets.length 9 = L := ⟨_, rfl⟩
  have hL : (min (I.sets.length : Int) 9).toNat = L := by omega
  have hL1 : L ≤ I.sets.length := by omega
  have hL2 : L ≤ 9 := by omega
  have hL3 : (0 : Int) ≤ min (I.sets.length : Int) 9 := by omega
  have hL4 : min (I.sets.length : Int) 9 ≤ (C2 : Int) := by omega
  obtain ⟨Z, eZ⟩ : ∃ Z : Nat, (max 0 I.size).tmod 9 = (Z : Int) := by
    rw [Int.tmod_eq_emod_of_nonneg (by omega)]
    exact ⟨(max 0 I.size % 9).toNat, by omega⟩
  have hZ : Z ≤ 8 := by
    rw [Int.tmod_eq_emod_of_nonneg (by omega)] at eZ
    omega
  obtain ⟨W0, hW0⟩ : ∃ q, q = (((w.alloc (.cells #[.int .i64 I.kind, .int .i64 I.cap, .slice A0 I.items.length C0, .slice A I.cost.length C, .int .i64 I.size, .slice A2 I.sets.length C2] 26)).alloc (.cells #[.int .i64 0, .int .i64 0, .slice none 0 0, .slice none 0 0, .int .i64 0, .slice none 0 0] 26)).alloc (.cells #[.int .i64 3, .int .i64 0, .slice none 0 0, .slice none 0 0, .int .i64 (Z : Int), .slice none 0 0] 26)) := ⟨_, rfl⟩
  have hsz : W0.heap.size = w.heap.size + 1 + 1 + 1 := by rw [hW0]; simp
  have HBw : Hid (Below w.heap.size w W0) := by
    rw [hW0]
    exact ((new_below w _).alloc (by simp) _).alloc (by simp; omega) _
  have hX : IBlk w.heap.size 26 (.int .i64 I.kind) (.int .i64 I.cap) (.slice A0 I.items.length C0) (.slice A I.cost.length C) (.int .i64 I.size) (.slice A2 I.sets.length C2) W0 := by
    rw [hW0]
    exact ((iblk_new w _ _ _ _ _ _ _).next (new_below _ _)).next (new_below _ _)
  have hR : IBlk (w.heap.size + 1) 26 (.int .i64 0) (.int .i64 0) (.slice none 0 0) (.slice none 0 0) (.int .i64 0) (.slice none 0 0) W0 := by
    rw [hW0]
    have h0 := iblk_new (w.alloc (.cells #[.int .i64 I.kind, .int .i64 I.cap, .slice A0 I.items.length C0, .slice A I.cost.length C, .int .i64 I.size, .slice A2 I.sets.length C2] 26)) (.int .i64 0) (.int .i64 0) (.slice none 0 0) (.slice none 0 0) (.int .i64 0) (.slice none 0 0) 26
    rw [World.size_alloc] at h0
    exact h0.next (new_below _ _)
  have hO : IBlk (w.heap.size + 1 + 1) 26 (.int .i64 3) (.int .i64 0) (.slice none 0 0) (.slice none 0 0) (.int .i64 (Z : Int)) (.slice none 0 0) W0 := by
    rw [hW0]
    have h0 := iblk_new ((w.alloc (.cells #[.int .i64 I.kind, .int .i64 I.cap, .slice A0 I.items.length C0, .slice A I.cost.length C, .int .i64 I.size, .slice A2 I.sets.length C2] 26)).alloc (.cells #[.int .i64 0, .int .i64 0, .slice none 0 0, .slice none 0 0, .int .i64 0, .slice none 0 0] 26)) (.int .i64 3) (.int .i64 0) (.slice none 0 0) (.slice none 0 0) (.int .i64 (Z : Int)) (.slice none 0 0) 26
    rw [World.size_alloc, World.size_alloc] at h0
    exact h0
  have HX := Lib.hid hX
  have HR := Lib.hid hR
  have HO := Lib.hid hO
  clear h hi hc hs hX hR hO wk hk
  go_enter Tryz.func7, Tryz.ntmps7
  go_wp2
  rw [← hW0]
  have HSZ := Lib.hid hsz
  clear hW0 hsz hL hL3 hL4
  go_loopw [145, 10, 11, 12, 14] (fun i _ _ _ _ wr => ∃ (k : Nat) (va : Value) (us : List Value) (S : List (Int × List Int)), k ≤ L ∧ i = .int .i64 (k : Nat) ∧ Hid (StS (w.heap.size + 1 + 1) (w.heap.size + 1 + 1 + 1) Z W0 k va us S wr)) (fun i _ _ _ _ _ => L - (intOf i).toNat)
  case atStart => exact ⟨0, .slice none 0 0, [], [], by omega, rfl, ⟨HO.out, World.ownsRow_nil _ _ _ _, rfl, rfl, (fun _ _ _ a _ => by simp at a), (fun _ a => by simp at a), (fun _ a => by simp at a), Keeps.refl _ _ _ _⟩⟩
  case round =>
    obtain ⟨k, va, us, S, hk, rfl, hS⟩ := hrel
    have hBr := Lib.hid (hS.out.be.below (M := w.heap.size + 1 + 1) (by omega) (by omega) (by omega))
    have hbs : w.heap.size + 1 + 1 + 1 ≤ wr.heap.size := by have := HSZ.out; have := hS.out.be.size; omega
    obtain ⟨x0, x1, x2, x3, x4, x5⟩ := (HX.out.below hBr.out (by omega)).box
    obtain ⟨o0, o1, o2, o3, o4, o5⟩ := hS.out.box.box
    by_cases hlt : k < L
    · obtain ⟨b, off, s, A', C', rfl, _, hb, hs0, c0w, c1w, _, hC', hM', hq⟩ := HI.out.get (i := k) (by omega)
      have bw := HBw.out.trans (hBr.out.mono (show w.heap.size ≤ w.heap.size + 1 + 1 by omega))
      have c0 := (bw.cell (p := ⟨b, off + k * 2, none⟩) hb).trans c0w
      have c1 := (bw.cell (p := ⟨b, off + k * 2 + 1, none⟩) hb).trans c1w
      have hbl : b < wr.heap.size := cell_lt c0
      clear c0w c1w
      unfold maxLen at hM'
      have c01 : (0 : Int) ≤ (k : Int) := by omega
      have c02 : (k : Int) < (L : Int) := by omega
      obtain ⟨c, ec⟩ : ∃ c, max 0 (cl s.1) = c := ⟨_, rfl⟩
      have hca : amt c = true := by rw [← ec]; exact amt_cl _
      obtain ⟨M, eM⟩ : ∃ M, min s.2.length 40 = M := ⟨_, rfl⟩
      have hM : (min (s.2.length : Int) 40).toNat = M := by omega
      have hM1 : M ≤ s.2.length := by omega
      have hM3 : (0 : Int) ≤ min (s.2.length : Int) 40 := by omega
      have hM4 : min (s.2.length : Int) 40 ≤ (C' : Int) := by omega
      clear hs0
      have NB := (new_below wr (.cells #[.int .i64 s.1, .slice A' s.2.length C'] 67)).alloc (by simp) (.cells #[.int .i64 c, .slice none 0 0] 67)
      have hlt2 : w.heap.size + 1 + 1 < wr.heap.size := by omega
      have ow4 := (hS.out.box.next NB).box.c4
      have HYB : Hid (((wr.alloc (.cells #[.int .i64 s.1, .slice A' s.2.length C'] 67)).alloc (.cells #[.int .i64 c, .slice none 0 0] 67)).heap[wr.heap.size]? = some (.cells #[.int .i64 s.1, .slice A' s.2.length C'] 67 (0, 0))) :=
        ((new_below (wr.alloc (.cells #[.int .i64 s.1, .slice A' s.2.length C'] 67)) (.cells #[.int .i64 c, .slice none 0 0] 67)).block _ (by simp)).trans (heap_alloc_new _ _)
      have HSB : Hid (((wr.alloc (.cells #[.int .i64 s.1, .slice A' s.2.length C'] 67)).alloc (.cells #[.int .i64 c, .slice none 0 0] 67)).heap[wr.heap.size + 1]? = some (.cells #[.int .i64 c, .slice none 0 0] 67 (0, 0))) := by
        have := heap_alloc_new (wr.alloc (.cells #[.int .i64 s.1, .slice A' s.2.length C'] 67)) (.cells #[.int .i64 c, .slice none 0 0] 67)
        rw [World.size_alloc] at this
        exact this
      have HNB := Lib.hid NB
      have HQ := Lib.hid hq
      have HBN := Lib.hid (on bw NB)
      have HOB := Lib.hid NB
      clear NB hq bw
      go_wp2_with fail
      with_reducible refine (CL _ _).mono ?_
      rintro e w2 ⟨rfl, rfl⟩
      go_wp2
      obtain ⟨w1, hw1⟩ : ∃ q, q = (wr.alloc (.cells #[.int .i64 s.1, .slice A' s.2.length C'] 67)).alloc (.cells #[.int .i64 c, .slice none 0 0] 67) := ⟨_, rfl⟩
      have hs1 : w1.heap.size = wr.heap.size + 1 + 1 := by rw [hw1]; simp
      rw [← hw1] at HYB HSB HNB HBN HOB ⊢
      clear hw1 ow4 x0 x1 x2 x3 x4 x5 o0 o1 o2 o3 o4 o5
      obtain ⟨wo, rfl⟩ : ∃ q, q = wr := ⟨_, rfl⟩
      go_loopw [157, 12, 14] (fun i _ _ wi => ∃ (j : Nat) (ve : Value) (els : List Int), j ≤ Z ∧ i = .int .i64 (j : Nat) ∧ Hid (StE (wo.heap.size + 1) c j w1 ve els wi)) (fun i _ _ _ => Z - (intOf i).toNat)
      case atStart => exact ⟨0, .slice none 0 0, [], by omega, rfl, ⟨HSB.out, World.ownsRow_nil _ _ _ _, rfl, Nat.le_refl _, Keeps.refl _ _ _ _⟩⟩
      case round =>
        obtain ⟨j, ve, els, hj, rfl, hE⟩ := hrel
        have hyb : wr.heap[wo.heap.size]? = some (.cells #[.int .i64 s.1, .slice A' s.2.length C'] 67 (0, 0)) := (hE.out.be.block _ (by omega) (by omega) (by omega)).trans HYB.out
        have y1 : wr.cell? ⟨wo.heap.size, 1, none⟩ = some (.slice A' s.2.length C') := by
          unfold World.cell?
          simp only [hyb]
          rfl
        have HB2 := Lib.hid (HBN.out.trans (hE.out.be.below (M := w.heap.size) (by omega) (by omega) (by omega)))
        by_cases hjlt : j < Z
        · have c03 : (0 : Int) ≤ (j : Int) := by omega
          have c04 : (j : Int) < (Z : Int) := by omega
          go_wp2
          obtain ⟨wj, rfl⟩ : ∃ q, q = wr := ⟨_, rfl⟩
          go_loopw [168, 14] (fun i _ wi => ∃ (l : Nat), l ≤ M ∧ i = .int .i64 (l : Nat) ∧ wi = wj) (fun i _ _ => M - (intOf i).toNat)
          case atStart => exact ⟨0, by omega, rfl, rfl⟩
          case round =>
            obtain ⟨l, hl, rfl, rfl⟩ := hrel
            by_cases hll : l < M
            · obtain ⟨b2, off2, x, rfl, _, hb2, hx, c3⟩ := (HQ.out.next HB2.out).get (i := l) (by omega)
              clear hx
              have c05 : (0 : Int) ≤ (l : Int) := by omega
              have c06 : (l : Int) < (M : Int) := by omega
              by_cases hxe : max 0 x % 9 = (j : Int)
              · have hxb : (max 0 x % 9 == (j : Int)) = true := by simpa using hxe
                obtain ⟨qa, ca, ea⟩ : ∃ A C, ve = .slice A els.length C := by
                  rcases hE.out.own.2 with ⟨q1, q2⟩ | ⟨g_, c_, _, q1, _⟩
                  · exact ⟨none, 0, by rw [q1, q2]⟩
                  · exact ⟨_, _, q1⟩
                subst ea
                have hsb := hE.out.cells
                have s1 : wr.cell? ⟨wo.heap.size + 1, 1, none⟩ = some (.slice qa els.length ca) := by
                  unfold World.cell?
                  simp only [hsb]
                  rfl
                have nb := new_below wr (.cells #[.int .i64 (j : Int)] 3)
                have HOW := Lib.hid (own_next hE.out.own nb)
                have HNW := Lib.hid (heap_alloc_new wr (.cells #[.int .i64 (j : Int)] 3))
                have HSV := Lib.hid ((nb.block _ (lt_of_block hsb)).trans hsb)
                have hel := hE.out.len
                have hsl := lt_of_block hsb
                have hbb : wo.heap.size + 1 + 1 ≤ wr.heap.size := by have := hE.out.be.size; omega
                have HEE := hE
                clear hsb nb hE
                go_wp2_with (at_builtin; refine wpList_append_lies _ rfl _ _ 65 rfl (wo.heap.size + 1 + 1) 3 tt1 (.int .i64 0) 1 8 Tryz.underlying65 tt2 tt3 tt4 tt5 rfl (by decide) _ _ _ rfl HOW.out ⟨wr.heap.size, 0, none⟩ 1 1 [.int .i64 (j : Int)] rfl rfl (World.news_of_block HNW.out) (fun v hv => by simp at hv; subst hv; rfl) (by omega) (by unfold maxLen; omega) (by omega) (by simp; omega) _ rfl ?_)
                intro g cap w3 hown hgrow hat hlt3
                have HE1 := Lib.hid (HEE.out.step hown hgrow)
                have hsv := (hgrow.block (wo.heap.size + 1) (by simp; omega) (fun e => by have := (HOW.out.lt _ e.symm).1; omega)).trans HSV.out
                have sw : w3.cell? ⟨wo.heap.size + 1, 1, none⟩ = some (.slice qa els.length ca) := by
                  unfold World.cell?
                  simp only [hsv]
                  rfl
                have sf : w3.frozen? ⟨wo.heap.size + 1, 1, none⟩ = false := frozen_of_row w3 _ 1 _ _ hsv
                clear hsv hown hgrow hat HOW HNW HSV HEE
                go_wp2
                exact ⟨⟨j + 1, _, _, by omega, by go_num, HE1⟩, by simp [intOf]; omega⟩
              · have hxb : (max 0 x % 9 == (j : Int)) = false := by simpa using hxe
                clear hE
                go_wp2
                exact ⟨⟨l + 1, by omega, by go_num, trivial⟩, by simp [intOf]; omega⟩
            · obtain rfl : l = M := by omega
              have HS2 := Lib.hid hE.out.skip
              clear hE
              go_wp2
              exact ⟨⟨j + 1, _, _, by omega, by go_num, HS2⟩, by simp [intOf]; omega⟩
        · obtain rfl : j = Z := by omega
          obtain ⟨qa, ca, ea⟩ : ∃ A C, ve = .slice A els.length C := by
            rcases hE.out.own.2 with ⟨q1, q2⟩ | ⟨g_, c_, _, q1, _⟩
            · exact ⟨none, 0, by rw [q1, q2]⟩
            · exact ⟨_, _, q1⟩
          subst ea
          have hsb := hE.out.cells
          have s0 : wr.cell? ⟨wo.heap.size + 1, 0, none⟩ = some (.int .i64 c) := by
            unfold World.cell?
            simp only [hsb]
            rfl
          have s1 : wr.cell? ⟨wo.heap.size + 1, 1, none⟩ = some (.slice qa els.length ca) := by
            unfold World.cell?
            simp only [hsb]
            rfl
          have HBO : Hid (Below wo.heap.size wo wr) := HOB.out.trans (hE.out.be.below (M := wo.heap.size) (by omega) (by omega) (by omega))
          have OX := hS.out.box.next HBO.out
          obtain ⟨o0, o1, o2, o3, o4, o5⟩ := OX.box
          obtain ⟨qv, cv, ev⟩ : ∃ A C, va = .slice A k C := by
            rcases hS.out.own.2 with ⟨q1, q2⟩ | ⟨g_, c_, _, q1, _⟩
            · exact ⟨none, 0, by rw [q1, q2]⟩
            · exact ⟨_, _, q1⟩
          subst ev
          have NB := HBO.out.trans ((new_below wr (.cells #[.int .i64 c, .slice qa els.length ca] 67)).mono HBO.out.size)
          have HOW := Lib.hid (own_next hS.out.own NB)
          have HOX := Lib.hid (hS.out.box.next NB)
          have HNW := Lib.hid (heap_alloc_new wr (.cells #[.int .i64 c, .slice qa els.length ca] 67))
          have hws : wo.heap.size ≤ wr.heap.size := HBO.out.size
          have HEE := hE
          have HSS := hS
          clear OX NB hE hS hsb
          go_wp2_with (at_builtin; refine wpList_append_lies _ rfl _ _ 24 rfl (w.heap.size + 1 + 1 + 1) 67 ss1 (.agg #[.int .i64 0, .slice none 0 0]) 2 32 Tryz.underlying24 ss2 ss3 ss4 ss5 rfl (by decide) _ _ _ rfl HOW.out ⟨wr.heap.size, 0, none⟩ 1 1 [.int .i64 c, .slice qa els.length ca] rfl rfl (World.news_of_block HNW.out) (one_pair rfl) (by omega) (by unfold maxLen; omega) (by omega) (by simp; omega) _ rfl ?_)
          intro g cap w3 hown hgrow hat hlt3
          have HE := Lib.hid (HSS.out.step hbs (by omega) HBO.out ((lies_of_own HEE.out.own).imp fun q hq => by have := (HEE.out.own.lt q hq).1; omega) hca HEE.out.up (Nat.le_trans HEE.out.len hZ) hown hgrow hat)
          have XB := HOX.out.keep (hgrow.block (w.heap.size + 1 + 1) HOX.out.lt (fun e => by have := (HOW.out.lt _ e.symm).1; omega))
          have ow := XB.box.c5
          have fw := XB.free 5
          clear XB hown hgrow hat HOW HOX HNW HSS HEE
          go_wp2
          exact ⟨⟨k + 1, _, _, _, by omega, by go_num, HE⟩, by simp [intOf]; omega⟩
    · obtain rfl : k = L := by omega
      have hS := hS.out
      have RR := HR.out.below (hS.be.below (M := w.heap.size + 1 + 1) (by omega) (by omega) (by omega)) (by omega)
      obtain ⟨y0, y1, y2, y3, y4, y5⟩ := RR.box
      have fy := fun o => RR.free o
      obtain ⟨qa, ca, ea⟩ : ∃ A C, va = .slice A k C := by
        rcases hS.own.2 with ⟨q1, q2⟩ | ⟨g_, c_, _, q1, _⟩
        · exact ⟨none, 0, by rw [q1, q2]⟩
        · exact ⟨_, _, q1⟩
      have HW := Lib.hid (HBw.out.trans (hBr.out.mono (by omega)))
      have HE : Hid (Ins (fun q => w.heap.size + 1 + 1 + 1 ≤ q) (fun q => w.heap.size + 1 + 1 + 1 ≤ q) wr (.agg #[.int .i64 3, .int .i64 0, .slice none 0 0, .slice none 0 0, .int .i64 (Z : Int), va]) (In.mk 3 0 [] [] Z S)) := by
        refine ⟨⟨.slice none 0 0, .slice none 0 0, va, [], us, rfl, Lies.nil _ _ _, ⟨rfl, Lies.nil _ _ _, fun i r v a _ => by simp at a⟩, ⟨by rw [hS.len, hS.lenS], ?_, fun i r v a b => (hS.rows i r v a b).imp fun q hq => hq.1⟩⟩⟩
        rw [hS.lenS]
        exact (lies_of_own hS.own).imp fun q hq => (hS.own.lt q hq).1
      have HC0 : Hid ((In.mk 3 0 [] [] Z S).chk = 0) := chk_sets (by omega) (by omega) (by rw [hS.lenS]; omega) (by rw [List.all_eq_true]; exact hS.amts) (by rw [List.all_eq_true]; exact fun s hs => (hS.up s hs).1)
      have HLN := Lib.hid hS.lenS
      have HSQ := Lib.hid hS.up
      clear hS RR hBr x0 x1 x2 x3 x4 x5
      subst ea
      go_wp2
      have lo : (w.heap.size + 1) < w.heap.size + 1 + 1 + 1 := by omega
      have hi : w.heap.size ≤ w.heap.size + 1 := by omega
      refine bodyPost_ret (v := .agg #[.int .i64 3, .int .i64 0, .slice none 0 0, .slice none 0 0, .int .i64 (Z : Int), .slice qa k ca]) (by simp [results, Tryz.results7, go_sem, y0, y1, y2, y3, y4, y5]) rfl ?_
      refine ⟨_, _, rfl, (((((((HE.out.low (a := ⟨_, _, _⟩) lo _).low (a := ⟨_, _, _⟩) lo _).low (a := ⟨_, _, _⟩) lo _).low (a := ⟨_, _, _⟩) lo _).low (a := ⟨_, _, _⟩) lo _).low (a := ⟨_, _, _⟩) lo _)).imp (fun _ _ => trivial) (fun _ _ => trivial), ⟨by show 0 ≤ 40; omega, by show 0 ≤ 70; omega, fun r hr => by simp at hr, by show S.length ≤ 40; rw [HLN.out]; omega, fun s hs => by have := (HSQ.out s hs).2; omega⟩, HC0.out, ?_⟩
      exact ((((((HW.out.setCell (p := ⟨_, _, _⟩) hi _).setCell (p := ⟨_, _, _⟩) hi _).setCell (p := ⟨_, _, _⟩) hi _).setCell (p := ⟨_, _, _⟩) hi _).setCell (p := ⟨_, _, _⟩) hi _).setCell (p := ⟨_, _, _⟩) hi _)
end Go.Proofs.YtbadingdklenhaaGreatDoor

/-
  What the laws' tame does (layer 9), whatever the kind: an instance that may be, with short lists.
-/
namespace Go.Proofs.YtbadingdklenhaaGreatDoor

theorem tame_any (I : In) (v : Value) (w : World) (h : Ins (fun _ => True) (fun _ => True) w v I) : Calls Tryz.prog 7 #[v, .int .i64 9] w (IsTame w) := by
  rcases kind_four I.kind with hk | hk | hk | hk
  · exact tameK_any I v w h hk
  · exact tameQ_any I v w h 1 hk (.inl rfl)
  · exact tameQ_any I v w h 2 hk (.inr rfl)
  · exact tameS_any I v w h hk
end Go.Proofs.YtbadingdklenhaaGreatDoor
