/-
  What Last does.
-/
import Derived.Test.YtooehfjappckmaaDoorBackWalks
import Derived.Test.YtooehfjappckmaaDoorShelf
namespace Go.Proofs.YtooehfjappckmaaDoor
set_option maxRecDepth 100000
open Go.RowKit Go.Shelf
attribute [local go_sem] Oper.semAt_some

theorem dn_mem {C j k : Nat} (hC : C ≤ 64) (hj : j ≤ C) (h1 : C - j ≤ k) (h2 : k < C) : ∃ y ∈ dn C j, y.val = k := by
  induction j with
  | zero => omega
  | succ j ih =>
    rw [dn]
    by_cases e : k = C - 1 - j
    · exact ⟨_, List.mem_append_right _ (List.mem_singleton.2 rfl), by show (C - 1 - j) % 64 = k; rw [Nat.mod_eq_of_lt (by omega)]; omega⟩
    · obtain ⟨y, hy, he⟩ := ih (by omega) (by omega)
      exact ⟨y, List.mem_append_left _ hy, he⟩
theorem dn_snoc {C j : Nat} {init : List (Fin 64)} {x : Fin 64} (hC : C ≤ 64) (hj : j ≤ C) (h : dn C j = init ++ [x]) : ∃ i, j = i + 1 ∧ init = dn C i ∧ x.val = C - 1 - i := by
  cases j with
  | zero => rw [dn] at h; simp at h
  | succ i =>
    rw [dn] at h
    obtain ⟨h1, h2⟩ := List.append_inj' h rfl
    refine ⟨i, rfl, h1.symm, ?_⟩
    have := List.head_eq_of_cons_eq h2
    rw [← this]
    show (C - 1 - i) % 64 = _
    rw [Nat.mod_eq_of_lt (by omega)]

theorem bitLenAux_le (x : Nat) : Lib.bitLen x ≤ 64 := by
  unfold Lib.bitLen
  have : ∀ f x, Lib.bitLenAux f x ≤ f := by
    intro f
    induction f with
    | zero => intro x; simp [Lib.bitLenAux]
    | succ f ih => intro x; rw [Lib.bitLenAux]; split; · omega
                   · have := ih (x / 2); omega
  exact this 64 x

set_option maxHeartbeats 4000000 in
theorem last_any (n : Nat) (x : Option Addr) (cap : Nat) (p : Nat → Bool) (w : World) (h : SetAt w n p x cap) :
    Calls Tryd.prog 31 #[.agg #[.int .i64 n, .slice x (nw n) cap]] w fun e w' => e = .returned (.int .i64 (lastP p n)) ∧ Below w.heap.size w w' := by
  have hN := nw_le h.le
  obtain ⟨W0, hW0⟩ : ∃ W, (((w.alloc (.cells #[.int .i64 n, .slice x (nw n) cap] 25)).alloc (.cells #[.int .i64 0] 3)).alloc (.cells #[.int .i64 n, .slice x (nw n) cap] 25)).alloc (.cells #[.int .i64 ((nw n : Nat) : Int)] 3) = W := ⟨_, rfl⟩
  have hB0 : Below w.heap.size w W0 := by rw [← hW0]; exact on (on (on (one_below _ _) (one_below _ _)) (one_below _ _)) (one_below _ _)
  have hs0 : W0.heap.size = w.heap.size + 4 := by rw [← hW0]; simp
  have hR : W0.cell? ⟨w.heap.size + 1, 0, none⟩ = some (.int .i64 0) ∧ W0.frozen? ⟨w.heap.size + 1, 0, none⟩ = false := by rw [← hW0]; constructor <;> simp [go_sem]
  have hSb : SBox (w.heap.size + 2) (.int .i64 n) (.slice x (nw n) cap) W0 := by
    have := (sbox_new ((w.alloc (.cells #[.int .i64 n, .slice x (nw n) cap] 25)).alloc (.cells #[.int .i64 0] 3)) (.int .i64 n) (.slice x (nw n) cap) 25).next (one_below _ (.cells #[.int .i64 ((nw n : Nat) : Int)] 3))
    rw [hW0] at this
    simpa using this
  have hcc : W0.cell? ⟨w.heap.size + 3, 0, none⟩ = some (.int .i64 ((nw n : Nat) : Int)) := by rw [← hW0]; simp [go_sem]
  have SQ := fun k hk => back_stops k hk (w.heap.size + 2) (w.heap.size + 3) (w.heap.size + 4) (nw n) (nw n) cap n x p hN (fun k hk => wd_out h.out hk) W0 (by omega) (by omega) hSb (by omega) hcc (h.words.below hB0) (fun b hb => by
    rcases h.words with ⟨h1, _⟩ | ⟨b', h1, h2, _⟩
    · rw [h1] at hb; cases hb
    · rw [h1] at hb; injection hb with hb; injection hb with hb; omega)
  have H := Lib.hid h
  have HR := Lib.hid hR
  have HB0 := Lib.hid hB0
  have HS0 := Lib.hid hs0
  refine (callsIn_wide (n := 4)).1 ?_
  refine callsIn_of_wp_marks Tryd.func31 rfl trivial ?_ rfl
  simp only [Tryd.ntmps31, List.size_toArray, List.length_cons, List.length_nil, Nat.reduceAdd, Nat.reduceSub, Array.replicate_succ, Array.replicate_zero, List.push_toArray, List.append_toArray, List.nil_append, List.cons_append]
  clear h hR hB0 hSb hcc hs0
  gi_wp2_with fail
  refine ⟨trivial, (callsIn_wide.2 (backward_any n (.slice x (nw n) cap) _ _)).mono ?_⟩
  rintro e w1 ⟨rfl, rfl⟩
  simp only [World.size_alloc]
  rw [hW0]
  gi_wp2_with fail
  refine wpIn_rangeFunc_ownF rfl (by omega) (gf := 55) (lb := #[.pointer (some ⟨w.heap.size + 3, 0, none⟩), .pointer (some ⟨w.heap.size + 2, 0, none⟩)]) rfl trivial (enters_of Tryd.func55 (by kernel_rfl) rfl)
    (SQ 3 (by omega)) belowK_t (belowK_b (by have := HS0.out; omega)) (Below.refl _ _) (fun _ => rfl)
    (fun pre W => ((∀ y ∈ pre, wd p y.val = 0) ∧ W.cell? ⟨w.heap.size + 1, 0, none⟩ = some (.int .i64 0) ∧ W.frozen? ⟨w.heap.size + 1, 0, none⟩ = false) ∧ Below w.heap.size w W)
    (fun c pre W => (c = .ret ∧ ∃ init y, pre = init ++ [y] ∧ (∀ y ∈ init, wd p y.val = 0) ∧ wd p y.val ≠ 0 ∧ W.cell? ⟨w.heap.size + 1, 0, none⟩ = some (.int .i64 (64 * (y.val : Int) + (Lib.bitLen (wd p y.val) : Int) - 1))) ∧ Below w.heap.size w W)
    (OwnFrom.and (Own.from (fun s A B row hs hg hr => ⟨hs.1, cell_kept hs.2.1 hg hr, (frozen_kept hs.2.1 hg hr).trans hs.2.2⟩) _) (ownFrom_below (Nat.le_refl _) (by have := HS0.out; omega)))
    (fun c => OwnFrom.and (Own.from (fun s A B row hs hg hr => by obtain ⟨h1, init, y, h2, h3, h4, h5⟩ := hs; exact ⟨h1, init, y, h2, h3, h4, cell_kept h5 hg hr⟩) _) (ownFrom_below (Nat.le_refl _) (by have := HS0.out; omega)))
    ⟨⟨by simp, HR.out⟩, HB0.out⟩
    (fun y => { tmps := #[.agg #[.int .i64 n, .slice x (nw n) cap], .pointer (some ⟨w.heap.size, 0, none⟩), .pointer (some ⟨w.heap.size + 1, 0, none⟩), .int .i64 ((y.val : Nat) : Int), .int .u64 ((wd p y.val : Nat) : Int), .agg #[.int .i64 n, .slice x (nw n) cap], .pointer (some ⟨w.heap.size, 1, none⟩), .slice x (nw n) cap, .int .i64 ((nw n : Nat) : Int), .func (.func 55) #[] #[.pointer (some ⟨w.heap.size + 1 + 1 + 1, 0, none⟩), .pointer (some ⟨w.heap.size + 1 + 1, 0, none⟩)], .int .i64 ((y.val : Nat) : Int), .int .u64 ((wd p y.val : Nat) : Int), undef, undef, undef, undef, undef, undef, undef, undef], defers := [] }) ?assign ?body ?done ?stop
  case assign =>
    intro l y W K hK
    simp only [encs]
    gi_wp2
    exact hK
  case body =>
    rintro l pre y W ⟨⟨hz, hc, hf⟩, hB⟩ _
    have hu := wd_lt p y.val
    have hy := y.isLt
    have HZ := Lib.hid hz
    have HB := Lib.hid hB
    by_cases hv : wd p y.val = 0
    · have HV := Lib.hid hv
      have hv0 : (((wd p y.val : Nat) : Int) == 0) = true := by simp [hv]
      rw [hv]
      clear hz hB hv
      gi_wp2
      exact ⟨KeepsOthers.refl _, Below.refl _ _, ⟨fun z hz => by rcases List.mem_append.1 hz with h | h; · exact HZ.out z h
                                                                 · rw [List.mem_singleton.1 h]; exact HV.out, hc, hf⟩, HB.out⟩
    · have LEN := Tryd.bits_Len64 ((wd p y.val : Nat) : Int) W (by omega) (by omega)
      have hb := bitLenAux_le (wd p y.val)
      have hv0 : (((wd p y.val : Nat) : Int) == 0) = false := by simp; omega
      have HV := Lib.hid hv
      rw [Int.toNat_natCast] at LEN
      generalize hL : Lib.bitLen (wd p y.val) = L at *
      have HL := Lib.hid hL
      generalize hu' : wd p y.val = u at *
      have HU := Lib.hid hu'
      generalize hyv : y.val = yv at *
      have HY := Lib.hid hyv
      clear hz hB hv hL hu' hyv
      gi_wp2_with (refine ⟨trivial, ?_⟩; gi_at_call 50; refine (CallsIn.inRound l (callsIn_wide.2 LEN)).mono ?_; rintro e w' ⟨rfl, rfl⟩)
      refine ⟨KeepsOthers.setCell _ _ _, ⟨rfl, pre, y, rfl, HZ.out, ?_, ?_⟩, HB.out.setCell (p := ⟨w.heap.size + 1, 0, none⟩) (by show w.heap.size ≤ w.heap.size + 1; omega) _⟩
      · rw [HY.out, HU.out]; exact HV.out
      · rw [HY.out, HU.out, HL.out, show 64 * (yv : Int) + (L : Int) - 1 = (yv : Int) * 64 + (L : Int) - 1 by omega]
        exact World.cell?_setCell_same' _ _ _ (by rw [hc]; rfl)
  case done =>
    rintro D ys W hD rfl ⟨⟨hz, hc, hf⟩, hB⟩ hK
    have hr : lastP p n = -1 := lastP_none fun i hi => by
      obtain ⟨y, hy, he⟩ := dn_mem (C := nw n) (j := nw n) (k := i / 64) hN (Nat.le_refl _) (by omega) (nw_at hi)
      have := wd_ne (hz y hy) (i % 64) (by omega)
      rwa [he, show 64 * (i / 64) + i % 64 = i by omega] at this
    have HRR := Lib.hid hr
    have HB := Lib.hid hB
    have HK := Lib.hid hK
    have HD := Lib.hid hD
    clear hz hr hB hK hD
    gi_wp2
    have hK' := (KeepsOthers.setCell W ⟨w.heap.size + 1, 0, none⟩ (.int .i64 (-1))).same D _ HK.out rfl
    refine ⟨by simp, .inl ⟨_, _, rfl, run_takeDeferred hK', ?_⟩⟩
    have hc5 := cell_kept (World.cell?_setCell_same' W ⟨w.heap.size + 1, 0, none⟩ (.int .i64 (-1)) (by rw [hc]; rfl)) (grownBy_putObj' _ D (.deferred none)) (fun r e => by cases e; exact ⟨_, hK', rfl⟩)
    refine ⟨.int .i64 (-1), ?_, ret_int HRR.out.symm, ?_⟩
    · simp [results, Tryd.f31, go_sem, hc5]
    · exact (HB.out.setCell (p := ⟨w.heap.size + 1, 0, none⟩) (by show w.heap.size ≤ w.heap.size + 1; omega) _).trans (belowK_b (w := w) (Nat.le_refl _) _ D _ _ (by have := HD.out; have := HS0.out; omega) hK' rfl rfl)
  case stop =>
    rintro D c pre W hD ⟨j, hj, rfl⟩ ⟨⟨rfl, init, y, he, hz, hv, hc⟩, hB⟩ hK
    obtain ⟨i, rfl, rfl, hyi⟩ := dn_snoc hN hj he
    have hr : lastP p n = 64 * (y.val : Int) + (Lib.bitLen (wd p y.val) : Int) - 1 := by
      obtain ⟨h1, h2, h3⟩ := last_word (p := p) (n := n) (k := y.val) H.out.out (fun t ht => by
        by_cases htn : t < n
        · have := nw_at htn
          obtain ⟨z, hz1, hz2⟩ := dn_mem (C := nw n) (j := i) (k := t / 64) hN (by omega) (by omega) this
          have := wd_ne (hz z hz1) (t % 64) (by omega)
          rwa [hz2, show 64 * (t / 64) + t % 64 = t by omega] at this
        · exact H.out.out t (by omega)) hv
      rw [h3]; omega
    have HRR := Lib.hid hr
    have HB := Lib.hid hB
    have HK := Lib.hid hK
    have HD := Lib.hid hD
    clear hz hr hB hK hD he hv
    gi_wp2
    refine ⟨by simp, .inl ⟨_, _, rfl, run_takeDeferred HK.out, ?_⟩⟩
    have hc5 := cell_kept hc (grownBy_putObj' _ D (.deferred none)) (fun r e => by cases e; exact ⟨_, HK.out, rfl⟩)
    refine ⟨_, ?_, ret_int HRR.out.symm, HB.out.trans (belowK_b (w := w) (Nat.le_refl _) _ D _ _ (by have := HD.out; have := HS0.out; omega) HK.out rfl rfl)⟩
    simp [results, Tryd.f31, go_sem, hc5]
end Go.Proofs.YtooehfjappckmaaDoor
