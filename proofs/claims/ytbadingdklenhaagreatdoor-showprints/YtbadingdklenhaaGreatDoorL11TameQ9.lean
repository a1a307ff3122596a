/-
  What the laws' tame makes of an assignment or a tsp (layer 9).
-/
import Derived.Test.YtbadingdklenhaaGreatDoorL11Tm
namespace Go.Proofs.YtbadingdklenhaaGreatDoor
set_option maxRecDepth 100000
open Go.RowKit

/-- The square's rows so far. -/
structure StQ (O B : Nat) (K : Int) (N : Nat) (W0 : World) (k : Nat) (va : Value) (us : List Value) (R : List (List Int)) (wr : World) : Prop where
  mk ::
  box : IBlk O 26 (.int .i64 K) (.int .i64 0) (.slice none 0 0) va (.int .i64 0) (.slice none 0 0) wr
  own : wr.ownsRow B 68 1 va k us
  len : us.length = k
  lenR : R.length = k
  rows : ∀ (j : Nat) (r : List Int) (u : Value), R[j]? = some r → us[j]? = some u → Ints (fun q => B ≤ q ∧ va.ownBlock ≠ some q) wr u r
  sq : ∀ r ∈ R, r.length = N
  mags : ∀ r ∈ R, r.all mag = true
  hollow : K = 2 → ∀ (j : Nat) (r : List Int), R[j]? = some r → r.getD j 0 = 0
  be : Keeps O O B W0 wr
/-- The row that is being made. -/
structure StR (rb N : Nat) (K : Int) (k : Nat) (W : World) (r : List Int) (wr : World) : Prop where
  mk ::
  len : r.length = N
  cells : wr.heap[rb]? = some (.cells (nl r).toArray 2 (0, 0))
  mags : r.all mag = true
  hollow : K = 2 → r.getD k 0 = 0
  be : Below rb W wr
theorem made_nl (N : Nat) : madeCells #[.int .i64 0] N = (nl (List.replicate N 0)).toArray := by
  apply Array.ext
  · simp [madeCells, nl]
  · intro i h1 h2
    simp [madeCells, nl, Nat.mod_one]
theorem hol_of : ∀ (k : Nat) (R : List (List Int)), (∀ (j : Nat) (r : List Int), R[j]? = some r → r.getD (k + j) 0 = 0) → hol k R = true
  | _, [], _ => rfl
  | k, r :: R, h => by
    unfold hol
    rw [Bool.and_eq_true]
    refine ⟨by have := h 0 r rfl; simpa using this, hol_of (k + 1) R fun j q hq => ?_⟩
    have := h (j + 1) q hq
    rwa [show k + (j + 1) = k + 1 + j by omega] at this
theorem StR.set {rb N : Nat} {K : Int} {k k' : Nat} {W wr : World} {r : List Int} (h : StR rb N K k W r wr) (x : Int) (hx : mag x = true) (hh : K = 2 → k ≠ k') : StR rb N K k W (r.set k' x) (wr.setCell ⟨rb, k', none⟩ (.int .i64 x)) := by
  refine ⟨by rw [List.length_set]; exact h.len, ?_, ?_, fun q => ?_, h.be.setCell (p := ⟨rb, k', none⟩) (Nat.le_refl _) _⟩
  · have := heap_setCell_same wr rb k' _ _ (.int .i64 x) h.cells
    rw [List.setIfInBounds_toArray] at this
    rw [this]
    unfold nl
    rw [List.map_set]
  · rw [List.all_eq_true]
    intro y hy
    rcases List.mem_or_eq_of_mem_set hy with q | q
    · exact List.all_eq_true.1 h.mags y q
    · rw [q]; exact hx
  · have h1 := h.hollow q
    have h2 := hh q
    rw [List.getD_eq_getElem?_getD] at h1 ⊢
    rw [List.getElem?_set_ne (Ne.symm h2)]
    exact h1

theorem Lies.lt {F : Nat → Prop} {w : World} {u : Value} {n : Nat} {cs : List Value} (h : Lies F w u n cs) : Lies (fun q => F q ∧ q < w.heap.size) w u n cs := by
  obtain ⟨A, C, h1, h2, h3, h4⟩ := h
  refine ⟨A, C, h1, h2, h3, fun h0 => ?_⟩
  obtain ⟨b, off, h5, h6, h7, h8⟩ := h4 h0
  exact ⟨b, off, h5, ⟨h6, h7⟩, h7, h8⟩
theorem StQ.step {O B : Nat} {K : Int} {N k : Nat} {W0 wo wr w1 : World} {va : Value} {us : List Value} {R : List (List Int)} {r : List Int} {g cap : Nat} {lit : Obj} (h : StQ O B K N W0 k va us R wo) (hB : B ≤ wo.heap.size) (hO : O < B) (hN : N ≤ 8) (hT : StR wo.heap.size N K k wo r wr)
    (ho : w1.ownsRow B 68 1 (.slice (some ⟨g, 0, none⟩) (k + 1) cap) (k + 1) (us ++ [.slice (some ⟨wo.heap.size, 0, none⟩) N N])) (hg : (wr.alloc lit).grownBy w1 va.ownBlock) (hat : va.ownBlock = some g ∨ g = (wr.alloc lit).heap.size) :
    StQ O B K N W0 (k + 1) (.slice (some ⟨g, 0, none⟩) (k + 1) cap) (us ++ [.slice (some ⟨wo.heap.size, 0, none⟩) N N]) (R ++ [r]) (w1.setCell ⟨O, 3, none⟩ (.slice (some ⟨g, 0, none⟩) (k + 1) cap)) := by
  have nb := new_below wr lit
  have b1 : Below wo.heap.size wo (wr.alloc lit) := hT.be.trans (nb.mono hT.be.size)
  have hlt := h.own.lt
  have hrl := lt_of_block hT.cells
  have hsz := hT.be.size
  have ga : ∀ q, q < wr.heap.size → va.ownBlock ≠ some q → g ≠ q := by
    intro q hq hn e
    subst e
    rcases hat with q1 | q1
    · exact hn q1
    · rw [World.size_alloc] at q1; omega
  have X1 := (h.box.next b1).keep (hg.block O (Nat.lt_of_lt_of_le (by omega) b1.size) (fun q => by have := (hlt O q.symm).1; omega))
  have rb1 : (w1.setCell ⟨O, 3, none⟩ (.slice (some ⟨g, 0, none⟩) (k + 1) cap)).heap[wo.heap.size]? = some (.cells (nl r).toArray 2 (0, 0)) :=
    (Below.heap_setCell w1 ⟨O, 3, none⟩ _ wo.heap.size (by show wo.heap.size ≠ O; omega)).trans ((hg.block wo.heap.size (by rw [World.size_alloc]; omega) (fun q => by have := (hlt _ q.symm).2; omega)).trans ((nb.block _ hrl).trans hT.cells))
  refine ⟨X1.set3 _, ownsRow_setCell_below (a := ⟨O, 3, none⟩) ho hO _, by rw [List.length_append, h.len]; rfl, by rw [List.length_append, h.lenR]; rfl, fun j q u hq hu => ?_, fun q hq => ?_, fun q hq => ?_, fun hK j q hq => ?_, ((h.be.next hB b1).grown (Nat.le_trans hB b1.size) hg (fun q hq => (hlt q hq).1)).store (.inl rfl) _⟩
  · by_cases hj : j < k
    · rw [List.getElem?_append_left (by rw [h.lenR]; exact hj)] at hq
      rw [List.getElem?_append_left (by rw [h.len]; exact hj)] at hu
      have hh := Lies.lt (h.rows j q u hq hu)
      refine Lies.imp (Lies.held hh ⟨?_, fun b hb _ => ?_⟩) (fun b hb => ⟨hb.1.1, fun e => ga b (by omega) hb.1.2 (by simpa [Value.ownBlock] using e)⟩)
      · simp only [World.setCell, Array.size_modify]
        exact Nat.le_trans b1.size hg.size
      · exact (Below.heap_setCell w1 ⟨O, 3, none⟩ _ b (by show b ≠ O; omega)).trans ((hg.block b (Nat.lt_of_lt_of_le hb.2 b1.size) (fun e => hb.1.2 e.symm)).trans (b1.block b hb.2))
    · obtain ⟨hjl, _⟩ := List.getElem?_eq_some_iff.1 hq
      rw [List.length_append, h.lenR] at hjl
      obtain rfl : j = k := by simp at hjl; omega
      rw [List.getElem?_append_right (by rw [h.lenR]; exact Nat.le_refl _), h.lenR, Nat.sub_self] at hq
      rw [List.getElem?_append_right (by rw [h.len]; exact Nat.le_refl _), h.len, Nat.sub_self] at hu
      obtain rfl : r = q := by simpa using hq
      obtain rfl := Option.some.inj hu
      refine ⟨some ⟨wo.heap.size, 0, none⟩, N, by rw [hT.len], by rw [hT.len]; exact Nat.le_refl _, by unfold maxLen; omega, fun _ => ⟨wo.heap.size, 0, rfl, ⟨hB, fun e => ?_⟩, lt_of_block rb1, fun i x hx => ?_⟩⟩
      · refine ga wo.heap.size (by omega) (fun q1 => ?_) (by simpa [Value.ownBlock] using e)
        have := (hlt _ q1).2
        omega
      · unfold World.cell?
        simp only [rb1]
        rw [Nat.zero_add]
        simpa using hx
  · rcases List.mem_append.1 hq with q1 | q1
    · exact h.sq q q1
    · obtain rfl : q = r := by simpa using q1
      exact hT.len
  · rcases List.mem_append.1 hq with q1 | q1
    · exact h.mags q q1
    · obtain rfl : q = r := by simpa using q1
      exact hT.mags
  · by_cases hj : j < k
    · rw [List.getElem?_append_left (by rw [h.lenR]; exact hj)] at hq
      exact h.hollow hK j q hq
    · obtain ⟨hjl, _⟩ := List.getElem?_eq_some_iff.1 hq
      rw [List.length_append, h.lenR] at hjl
      obtain rfl : j = k := by simp at hjl; omega
      rw [List.getElem?_append_right (by rw [h.lenR]; exact Nat.le_refl _), h.lenR, Nat.sub_self] at hq
      obtain rfl : r = q := by simpa using hq
      exact hT.hollow hK
theorem StQ.chk {O B : Nat} {K : Int} {N : Nat} {W0 wr : World} {va : Value} {us : List Value} {R : List (List Int)} (h : StQ O B K N W0 N va us R wr) (hK : K = 1 ∨ K = 2) (h1 : 1 ≤ N) (h8 : N ≤ 8) : (In.mk K 0 [] R 0 []).chk = 0 := by
  refine chk_square hK (by rw [h.lenR]; exact h1) (by rw [h.lenR]; omega) ?_ ?_ (fun q => hol_of 0 R fun j r hr => by rw [Nat.zero_add]; exact h.hollow q j r hr)
  · rw [List.all_eq_true]
    intro r hr
    rw [h.lenR, h.sq r hr]
    simp
  · rw [List.all_eq_true]
    exact h.mags

set_option maxHeartbeats 2000000 in
theorem tameQ_any (I : In) (v : Value) (w : World) (h : Ins (fun _ => True) (fun _ => True) w v I) (K : Int) (hk : (I.kind.tmod 4 + 4).tmod 4 = K) (hK : K = 1 ∨ K = 2) : Calls Tryz.prog 7 #[v, .int .i64 9] w (IsTame w) := by
  unfold IsTame
  obtain ⟨vi, vc, vs, uc, us0, rfl, hi, hc, hs⟩ := h.form
  obtain ⟨A0, C0, rfl, k0, m0⟩ := hi.form
  obtain ⟨A, C, rfl, k1, m1⟩ := hc.form
  obtain ⟨A2, C2, rfl, k2, m2⟩ := hs.form
  unfold maxLen at m0 m1 m2
  obtain ⟨nn1, nn2, nn3, nn4, nn5⟩ := info_num
  obtain ⟨rr1, rr2, rr3, rr4, rr5⟩ := info_row
  have wk := kind_wrap I.kind
  obtain ⟨K1, hK1⟩ : ∃ K1, wrap64 (I.kind.tmod 4 + 4) = K1 := ⟨_, rfl⟩
  have hK0 : K1.tmod 4 = K := by rw [← hK1, wk]; exact hk
  have hb0 : (K == 0) = false := by rcases hK with rfl | rfl <;> rfl
  have hb3 : (K == 3) = false := by rcases hK with rfl | rfl <;> rfl
  have CL := clamp_any
  have HC := Lib.hid hc
  obtain ⟨N, eN⟩ : ∃ N : Nat, max 1 (min (I.cost.length : Int) 8) = (N : Int) := ⟨(max 1 (min (I.cost.length : Int) 8)).toNat, by omega⟩
  have hN1 : 1 ≤ N := by omega
  have hN8 : N ≤ 8 := by omega
  have hmk : ∀ W, (Instr.makeSlice 68 (.int .i64 (N : Int)) (.int .i64 (N : Int))).run Tryz.prog W = .ok (.slice (some ⟨W.heap.size, 0, none⟩) N N) (W.alloc (.cells (madeCells #[.int .i64 0] N) 2)) := by
    intro W
    have := run_make (P := Tryz.prog) W 68 2 nn1 (.int .i64 0) Tryz.underlying68 nn2 nn3 .i64 .i64 (N : Int) (N : Int) (by omega) (by omega) (by rw [nn5]; omega) (by omega)
    rw [nn4] at this
    simpa [Value.cells] using this
  obtain ⟨W0, hW0⟩ : ∃ q, q = (((w.alloc (.cells #[.int .i64 I.kind, .int .i64 I.cap, .slice A0 I.items.length C0, .slice A I.cost.length C, .int .i64 I.size, .slice A2 I.sets.length C2] 26)).alloc (.cells #[.int .i64 0, .int .i64 0, .slice none 0 0, .slice none 0 0, .int .i64 0, .slice none 0 0] 26)).alloc (.cells #[.int .i64 K, .int .i64 0, .slice none 0 0, .slice none 0 0, .int .i64 0, .slice none 0 0] 26)) := ⟨_, rfl⟩
  have hsz : W0.heap.size = w.heap.size + 1 + 1 + 1 := by rw [hW0]; simp
  have HBw : Hid (Below w.heap.size w W0) := by
    rw [hW0]
    exact ((new_below w _).alloc (by simp) _).alloc (by simp; omega) _
  have hX : IBlk w.heap.size 26 (.int .i64 I.kind) (.int .i64 I.cap) (.slice A0 I.items.length C0) (.slice A I.cost.length C) (.int .i64 I.size) (.slice A2 I.sets.length C2) W0 := by
    rw [hW0]
    exact ((iblk_new w _ _ _ _ _ _ _).next (new_below _ _)).next (new_below _ _)
  have hR : IBlk (w.heap.size + 1) 26 (.int .i64 0) (.int .i64 0) (.slice none 0 0) (.slice none 0 0) (.int .i64 0) (.slice none 0 0) W0 := by
    rw [hW0]
    have h0 := iblk_new (w.alloc (.cells #[.int .i64 I.kind, .int .i64 I.cap, .slice A0 I.items.length C0, .slice A I.cost.length C, .int .i64 I.size, .slice A2 I.sets.length C2] 26)) (.int .i64 0) (.int .i64 0) (.slice none 0 0) (.slice none 0 0) (.int .i64 0) (.slice none 0 0) 26
    rw [World.size_alloc] at h0
    exact h0.next (new_below _ _)
  have hO : IBlk (w.heap.size + 1 + 1) 26 (.int .i64 K) (.int .i64 0) (.slice none 0 0) (.slice none 0 0) (.int .i64 0) (.slice none 0 0) W0 := by
    rw [hW0]
    have h0 := iblk_new ((w.alloc (.cells #[.int .i64 I.kind, .int .i64 I.cap, .slice A0 I.items.length C0, .slice A I.cost.length C, .int .i64 I.size, .slice A2 I.sets.length C2] 26)).alloc (.cells #[.int .i64 0, .int .i64 0, .slice none 0 0, .slice none 0 0, .int .i64 0, .slice none 0 0] 26)) (.int .i64 K) (.int .i64 0) (.slice none 0 0) (.slice none 0 0) (.int .i64 0) (.slice none 0 0) 26
    rw [World.size_alloc, World.size_alloc] at h0
    exact h0
  have HX := Lib.hid hX
  have HR := Lib.hid hR
  have HO := Lib.hid hO
  clear h hi hc hs hX hR hO wk hk
  go_enter Tryz.func7, Tryz.ntmps7
  go_wp2
  rw [← hW0]
  have HSZ := Lib.hid hsz
  clear hW0 hsz
  go_loopw [35, 16, 17, 18] (fun i _ _ _ wr => ∃ (k : Nat) (va : Value) (us : List Value) (R : List (List Int)), k ≤ N ∧ i = .int .i64 (k : Nat) ∧ Hid (StQ (w.heap.size + 1 + 1) (w.heap.size + 1 + 1 + 1) K N W0 k va us R wr)) (fun i _ _ _ _ => N - (intOf i).toNat)
  case atStart => exact ⟨0, .slice none 0 0, [], [], by omega, rfl, ⟨HO.out, World.ownsRow_nil _ _ _ _, rfl, rfl, (fun _ _ _ a _ => by simp at a), (fun _ a => by simp at a), (fun _ a => by simp at a), (fun _ _ _ a => by simp at a), Keeps.refl _ _ _ _⟩⟩
  case round =>
    obtain ⟨k, va, us, R, hk, rfl, hS⟩ := hrel
    have hBr := Lib.hid (hS.out.be.below (M := w.heap.size + 1 + 1) (by omega) (by omega) (by omega))
    have hbs : w.heap.size + 1 + 1 + 1 ≤ wr.heap.size := by have := HSZ.out; have := hS.out.be.size; omega
    by_cases hlt : k < N
    · have HM := Lib.hid (new_below wr (.cells (madeCells #[.int .i64 0] N) 2))
      have HR0 : Hid (StR wr.heap.size N K k wr (List.replicate N 0) (wr.alloc (.cells (madeCells #[.int .i64 0] N) 2))) := by
        refine ⟨by simp, ?_, by simp [mag], fun _ => ?_, HM.out⟩
        · rw [heap_alloc_new, made_nl]
        · simp [List.getD_eq_getElem?_getD, List.getElem?_replicate]
          split <;> rfl
      have c01 : (0 : Int) ≤ (k : Int) := by omega
      have c02 : (k : Int) < (N : Int) := by omega
      go_wp2
      obtain ⟨w1, hw1⟩ : ∃ q, q = wr.alloc (.cells (madeCells #[.int .i64 0] N) 2) := ⟨_, rfl⟩
      rw [← hw1] at HM HR0 ⊢
      clear hw1
      obtain ⟨wo, rfl⟩ : ∃ q, q = wr := ⟨_, rfl⟩
      go_loopw [41, 18] (fun i _ wi => ∃ (j : Nat) (r : List Int), j ≤ N ∧ i = .int .i64 (j : Nat) ∧ Hid (StR wo.heap.size N K k wo r wi)) (fun i _ _ => N - (intOf i).toNat)
      case atStart => exact ⟨0, _, by omega, rfl, HR0⟩
      case round =>
        obtain ⟨j, r, hj, rfl, hT⟩ := hrel
        have hBi := Lib.hid (hBr.out.trans (hT.out.be.mono (show w.heap.size + 1 + 1 ≤ wo.heap.size by omega)))
        obtain ⟨x0, x1, x2, x3, x4, x5⟩ := (HX.out.below hBi.out (by omega)).box
        obtain ⟨o0, _, _, _, _, _⟩ := (hS.out.box.below hT.out.be (by omega)).box
        by_cases hjlt : j < N
        · have c03 : (0 : Int) ≤ (j : Int) := by omega
          have c04 : (j : Int) < (N : Int) := by omega
          by_cases hic : k < I.cost.length
          · have ci : (k : Int) < (I.cost.length : Int) := by omega
            have di : decide ((k : Int) < (I.cost.length : Int)) = true := by simp; omega
            obtain ⟨b, off, r0, A', C', rfl, _, hb, hr0, c0, _, hC', hM', hq⟩ := (HC.out.next (HBw.out.trans (hBi.out.mono (by omega)))).get (i := k) hic
            unfold maxLen at hM'
            clear hr0
            by_cases hjc : j < r0.length
            · have cj : (j : Int) < (r0.length : Int) := by omega
              obtain ⟨b2, off2, x, rfl, _, hb2, hx, c1⟩ := hq.get hjc
              clear hx hq
              by_cases hd : K = 2 ∧ k = j
              · obtain ⟨rfl, rfl⟩ := hd
                have HT := hT
                clear hT
                go_wp2
                exact ⟨⟨k + 1, r, by omega, by go_num, HT⟩, by simp [intOf]; omega⟩
              · have HST := Lib.hid (hT.out.set (k' := j) (cl x) (mag_cl x) (fun q e => hd ⟨q, e⟩))
                have hrj : ∃ y, r[j]? = some y := ⟨_, List.getElem?_eq_getElem (by rw [hT.out.len]; exact hjlt)⟩
                obtain ⟨y, hy⟩ := hrj
                have hcl := hT.out.cells
                have st0 : wr.cell? ⟨wo.heap.size, j, none⟩ = some (.int .i64 y) := by
                  unfold World.cell?
                  simp only [hcl]
                  simp [nl_get hy]
                have st1 : wr.frozen? ⟨wo.heap.size, j, none⟩ = false := frozen_of_row wr _ j _ _ hcl
                clear hT hcl
                rcases hK with rfl | rfl
                · go_wp2_with fail
                  (with_reducible refine (CL _ _).mono ?_)
                  rintro e w2 ⟨rfl, rfl⟩
                  go_wp2
                  exact ⟨⟨j + 1, _, by omega, by go_num, HST⟩, by simp [intOf]; omega⟩
                · have hkj : ¬ k = j := fun e => hd ⟨rfl, e⟩
                  have hkj' : ¬ (k : Int) = (j : Int) := by omega
                  have hkb : ((k : Int) == (j : Int)) = false := by simp; omega
                  have hkc : (!((k : Int) == (j : Int))) = true := by simp; omega
                  go_wp2_with fail
                  (with_reducible refine (CL _ _).mono ?_)
                  rintro e w2 ⟨rfl, rfl⟩
                  go_wp2
                  exact ⟨⟨j + 1, _, by omega, by go_num, HST⟩, by simp [intOf]; omega⟩
            · have HT := hT
              clear hT
              go_wp2
              exact ⟨⟨j + 1, r, by omega, by go_num, HT⟩, by simp [intOf]; omega⟩
          · have HT := hT
            clear hT
            go_wp2
            exact ⟨⟨j + 1, r, by omega, by go_num, HT⟩, by simp [intOf]; omega⟩
        · obtain rfl : j = N := by omega
          have OX := hS.out.box.next hT.out.be
          obtain ⟨o0, o1, o2, o3, o4, o5⟩ := OX.box
          have NB := hT.out.be.trans ((new_below wr (.cells #[.slice (some ⟨wo.heap.size, 0, none⟩) j j] 68)).mono hT.out.be.size)
          have HOW := Lib.hid (own_next hS.out.own NB)
          have HOX := Lib.hid (hS.out.box.next NB)
          have HNW := Lib.hid (heap_alloc_new wr (.cells #[.slice (some ⟨wo.heap.size, 0, none⟩) j j] 68))
          have hws : wo.heap.size ≤ wr.heap.size := hT.out.be.size
          obtain ⟨qa, ca, ea⟩ : ∃ A C, va = .slice A k C := by
            rcases hS.out.own.2 with ⟨q1, q2⟩ | ⟨g_, c_, _, q1, _⟩
            · exact ⟨none, 0, by rw [q1, q2]⟩
            · exact ⟨_, _, q1⟩
          subst ea
          have HT := hT
          have HSS := hS
          clear OX NB hT hS
          go_wp2_with (at_builtin; refine wpList_append_lies _ rfl _ _ 23 rfl (w.heap.size + 1 + 1 + 1) 68 rr1 (.slice none 0 0) 1 24 Tryz.underlying23 rr2 rr3 rr4 rr5 rfl (by decide) _ _ _ rfl HOW.out ⟨wr.heap.size, 0, none⟩ 1 1 [.slice (some ⟨wo.heap.size, 0, none⟩) j j] rfl rfl (World.news_of_block HNW.out) (one_head rfl) (by omega) (by unfold maxLen; omega) (by omega) (by simp; omega) _ rfl ?_)
          intro g cap w3 hown hgrow hat hlt3
          have HE := Lib.hid (HSS.out.step hbs (by omega) hN8 HT.out hown hgrow (by rw [World.size_alloc]; exact hat))
          have XB := HOX.out.keep (hgrow.block (w.heap.size + 1 + 1) HOX.out.lt (fun e => by have := (HOW.out.lt _ e.symm).1; omega))
          have ow := XB.box.c3
          have fw := XB.free 3
          clear XB hown hgrow hat HOW HOX HNW HSS HT
          go_wp2
          exact ⟨⟨k + 1, _, _, _, by omega, by go_num, HE⟩, by simp [intOf]; omega⟩
    · obtain rfl : k = N := by omega
      have hS := hS.out
      obtain ⟨o0, o1, o2, o3, o4, o5⟩ := hS.box.box
      have RR := HR.out.below (hS.be.below (M := w.heap.size + 1 + 1) (by omega) (by omega) (by omega)) (by omega)
      obtain ⟨y0, y1, y2, y3, y4, y5⟩ := RR.box
      have fy := fun o => RR.free o
      obtain ⟨qa, ca, ea⟩ : ∃ A C, va = .slice A k C := by
        rcases hS.own.2 with ⟨q1, q2⟩ | ⟨g_, c_, _, q1, _⟩
        · exact ⟨none, 0, by rw [q1, q2]⟩
        · exact ⟨_, _, q1⟩
      have HW := Lib.hid (HBw.out.trans (hBr.out.mono (by omega)))
      have HE : Hid (Ins (fun q => w.heap.size + 1 + 1 + 1 ≤ q) (fun q => w.heap.size + 1 + 1 + 1 ≤ q) wr (.agg #[.int .i64 K, .int .i64 0, .slice none 0 0, va, .int .i64 0, .slice none 0 0]) (In.mk K 0 [] R 0 [])) := by
        refine ⟨⟨.slice none 0 0, va, .slice none 0 0, us, [], rfl, Lies.nil _ _ _, ⟨by rw [hS.len, hS.lenR], ?_, fun i r v a b => (hS.rows i r v a b).imp fun q hq => hq.1⟩, ⟨rfl, Lies.nil _ _ _, fun i r v a _ => by simp at a⟩⟩⟩
        rw [hS.lenR]
        exact (lies_of_own hS.own).imp fun q hq => (hS.own.lt q hq).1
      have HC0 := Lib.hid (hS.chk hK hN1 hN8)
      have HLN := Lib.hid hS.lenR
      have HSQ := Lib.hid hS.sq
      clear hS RR hBr
      subst ea
      go_wp2
      have lo : (w.heap.size + 1) < w.heap.size + 1 + 1 + 1 := by omega
      have hi : w.heap.size ≤ w.heap.size + 1 := by omega
      refine bodyPost_ret (v := .agg #[.int .i64 K, .int .i64 0, .slice none 0 0, .slice qa k ca, .int .i64 0, .slice none 0 0]) (by simp [results, Tryz.results7, go_sem, y0, y1, y2, y3, y4, y5]) rfl ?_
      refine ⟨_, _, rfl, (((((((HE.out.low (a := ⟨_, _, _⟩) lo _).low (a := ⟨_, _, _⟩) lo _).low (a := ⟨_, _, _⟩) lo _).low (a := ⟨_, _, _⟩) lo _).low (a := ⟨_, _, _⟩) lo _).low (a := ⟨_, _, _⟩) lo _)).imp (fun _ _ => trivial) (fun _ _ => trivial), ⟨by show 0 ≤ 40; omega, by show R.length ≤ 70; rw [HLN.out]; omega, fun r hr => by rw [HSQ.out r hr]; omega, by show 0 ≤ 40; omega, fun r hr => by simp at hr⟩, HC0.out, ?_⟩
      exact ((((((HW.out.setCell (p := ⟨_, _, _⟩) hi _).setCell (p := ⟨_, _, _⟩) hi _).setCell (p := ⟨_, _, _⟩) hi _).setCell (p := ⟨_, _, _⟩) hi _).setCell (p := ⟨_, _, _⟩) hi _).setCell (p := ⟨_, _, _⟩) hi _)
end Go.Proofs.YtbadingdklenhaaGreatDoor
