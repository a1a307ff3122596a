/-
  What Compare (and cmp.Compare on words) does.
-/
import Derived.Test.YtooehfjappckmaaDoorLastWalks
namespace Go.Proofs.YtooehfjappckmaaDoor
set_option maxRecDepth 100000
open Go.RowKit Go.Shelf
attribute [local go_sem] Oper.semAt_some

theorem nan_any (u : Int) (w : World) : Calls Tryd.prog 56 #[.int .u64 u] w fun e w' => e = .returned (.bool false) ∧ w' = w := by
  go_enter Tryd.func56, Tryd.ntmps56
  go_wp2
  go_ret
  exact ⟨rfl, rfl⟩
theorem cmpu_any (u v : Nat) (w : World) : Calls Tryd.prog 51 #[.int .u64 (u : Int), .int .u64 (v : Int)] w fun e w' => e = .returned (.int .i64 (cmp3 u v)) ∧ w' = w := by
  have N1 := nan_any (u : Int)
  have N2 := nan_any (v : Int)
  unfold cmp3
  go_enter Tryd.func51, Tryd.ntmps51
  go_wp2_with fail
  with_reducible refine (N1 _).mono ?_
  rintro e w1 ⟨rfl, rfl⟩
  go_wp2_with fail
  with_reducible refine (N2 _).mono ?_
  rintro e w2 ⟨rfl, rfl⟩
  by_cases h1 : u < v
  · have h1' : (u : Int) < (v : Int) := by omega
    go_wp2
    go_ret
    exact ⟨rfl, rfl⟩
  · have h1' : ¬ ((u : Int) < (v : Int)) := by omega
    by_cases h2 : v < u
    · have h2' : (v : Int) < (u : Int) := by omega
      go_wp2
      go_ret
      exact ⟨rfl, rfl⟩
    · have h2' : ¬ ((v : Int) < (u : Int)) := by omega
      go_wp2
      go_ret
      exact ⟨rfl, rfl⟩

theorem wd_inj {p q : Nat → Bool} {k t : Nat} (h : wd p k = wd q k) (h1 : 64 * k ≤ t) (h2 : t < 64 * (k + 1)) : p t = q t := by
  have := congrArg (fun z => Nat.testBit z (t - 64 * k)) h
  simp only [wd_bit, show 64 * k + (t - 64 * k) = t by omega] at this
  simpa [show t - 64 * k < 64 by omega] using this
theorem cmp3_zero {u v : Nat} (h : cmp3 u v = 0) : u = v := by
  unfold cmp3 at h
  split at h
  · cases h
  · split at h
    · cases h
    · omega

set_option maxHeartbeats 8000000 in
theorem compare_any (n m : Nat) (p q : Nat → Bool) (x y : Option Addr) (c d : Nat) (w : World) (h1 : SetAt w n p x c) (h2 : SetAt w m q y d) :
    Calls Tryd.prog 32 #[.agg #[.int .i64 n, .slice x (nw n) c], .agg #[.int .i64 m, .slice y (nw m) d]] w fun e w' => e = .returned (.int .i64 (cmpP p q (max n m))) ∧ Below w.heap.size w w' := by
  have hN := nw_le h1.le
  have hM := nw_le h2.le
  have hres := cmp_words h1.out h2.out
  obtain ⟨C, hC⟩ : ∃ C, max (nw n) (nw m) = C := ⟨_, rfl⟩
  have hCi : max ((nw n : Nat) : Int) ((nw m : Nat) : Int) = (C : Int) := by omega
  have hC64 : C ≤ 64 := by omega
  rw [hC] at hres
  obtain ⟨W0, hW0⟩ : ∃ W, ((((w.alloc (.cells #[.int .i64 n, .slice x (nw n) c] 25)).alloc (.cells #[.int .i64 m, .slice y (nw m) d] 25)).alloc (.cells #[.int .i64 0] 3)).alloc (.cells #[.int .i64 n, .slice x (nw n) c] 25)).alloc (.cells #[.int .i64 (C : Int)] 3) = W := ⟨_, rfl⟩
  have hB0 : Below w.heap.size w W0 := by rw [← hW0]; exact on (on (on (on (one_below _ _) (one_below _ _)) (one_below _ _)) (one_below _ _)) (one_below _ _)
  have hs0 : W0.heap.size = w.heap.size + 5 := by rw [← hW0]; simp
  have hR : W0.cell? ⟨w.heap.size + 1, 0, none⟩ = some (.int .i64 m) ∧ W0.cell? ⟨w.heap.size + 1, 1, none⟩ = some (.slice y (nw m) d) ∧ W0.cell? ⟨w.heap.size + 1 + 1, 0, none⟩ = some (.int .i64 0) ∧ W0.frozen? ⟨w.heap.size + 1 + 1, 0, none⟩ = false := by
    rw [← hW0]; refine ⟨?_, ?_, ?_, ?_⟩ <;> simp [go_sem]
  have hSb : SBox (w.heap.size + 3) (.int .i64 n) (.slice x (nw n) c) W0 := by
    have := (sbox_new (((w.alloc (.cells #[.int .i64 n, .slice x (nw n) c] 25)).alloc (.cells #[.int .i64 m, .slice y (nw m) d] 25)).alloc (.cells #[.int .i64 0] 3)) (.int .i64 n) (.slice x (nw n) c) 25).next (one_below _ (.cells #[.int .i64 (C : Int)] 3))
    rw [hW0] at this
    simpa using this
  have hcc : W0.cell? ⟨w.heap.size + 4, 0, none⟩ = some (.int .i64 (C : Int)) := by rw [← hW0]; simp [go_sem]
  have SQ := fun k hk => back_stops k hk (w.heap.size + 3) (w.heap.size + 4) (w.heap.size + 5) C (nw n) c n x p hC64 (fun k hk => wd_out h1.out hk) W0 (by omega) (by omega) hSb (by omega) hcc (h1.words.below hB0) (fun b hb => by
    rcases h1.words with ⟨h1, _⟩ | ⟨b', h1, h2, _⟩
    · rw [h1] at hb; cases hb
    · rw [h1] at hb; injection hb with hb; injection hb with hb; omega)
  have H2 := Lib.hid h2
  have HR := Lib.hid hR
  have HB0 := Lib.hid hB0
  have HS0 := Lib.hid hs0
  have HQ := Lib.hid hres
  refine (callsIn_wide (n := 4)).1 ?_
  refine callsIn_of_wp_marks Tryd.func32 rfl trivial ?_ rfl
  simp only [Tryd.ntmps32, List.size_toArray, List.length_cons, List.length_nil, Nat.reduceAdd, Nat.reduceSub, Array.replicate_succ, Array.replicate_zero, List.push_toArray, List.append_toArray, List.nil_append, List.cons_append]
  clear h1 h2 hR hB0 hSb hcc hs0 hres hC
  gi_wp2_with fail
  refine ⟨trivial, (callsIn_wide.2 (backward_any n (.slice x (nw n) c) _ _)).mono ?_⟩
  rintro e w1 ⟨rfl, rfl⟩
  simp only [World.size_alloc]
  rw [hW0]
  gi_wp2_with fail
  refine wpIn_rangeFunc_ownF rfl (by omega) (gf := 55) (lb := #[.pointer (some ⟨w.heap.size + 4, 0, none⟩), .pointer (some ⟨w.heap.size + 3, 0, none⟩)]) rfl trivial (enters_of Tryd.func55 (by kernel_rfl) rfl)
    (SQ 3 (by omega)) belowK_t (belowK_b (by have := HS0.out; omega)) (Below.refl _ _) (fun _ => rfl)
    (fun pre W => ((∀ z ∈ pre, wd p z.val = wd q z.val) ∧ W.cell? ⟨w.heap.size + 1, 0, none⟩ = some (.int .i64 m) ∧ W.cell? ⟨w.heap.size + 1, 1, none⟩ = some (.slice y (nw m) d) ∧ W.cell? ⟨w.heap.size + 1 + 1, 0, none⟩ = some (.int .i64 0) ∧ W.frozen? ⟨w.heap.size + 1 + 1, 0, none⟩ = false) ∧ (Below w.heap.size w W ∧ Below (w.heap.size + 5) W0 W))
    (fun cc pre W => (cc = .ret ∧ ∃ init z, pre = init ++ [z] ∧ (∀ z ∈ init, wd p z.val = wd q z.val) ∧ cmp3 (wd p z.val) (wd q z.val) ≠ 0 ∧ W.cell? ⟨w.heap.size + 1 + 1, 0, none⟩ = some (.int .i64 (cmp3 (wd p z.val) (wd q z.val)))) ∧ Below w.heap.size w W)
    (OwnFrom.and (Own.from (fun s A B row hs hg hr => ⟨hs.1, cell_kept hs.2.1 hg hr, cell_kept hs.2.2.1 hg hr, cell_kept hs.2.2.2.1 hg hr, (frozen_kept hs.2.2.2.1 hg hr).trans hs.2.2.2.2⟩) _) (OwnFrom.and (ownFrom_below (Nat.le_refl _) (by have := HS0.out; omega)) (ownFrom_below (by have := HS0.out; omega) (by have := HS0.out; omega))))
    (fun cc => OwnFrom.and (Own.from (fun s A B row hs hg hr => by obtain ⟨h1, init, z, h2, h3, h4, h5⟩ := hs; exact ⟨h1, init, z, h2, h3, h4, cell_kept h5 hg hr⟩) _) (ownFrom_below (Nat.le_refl _) (by have := HS0.out; omega)))
    ⟨⟨by simp, HR.out⟩, HB0.out, Below.refl _ _⟩
    (fun z => { tmps := #[.agg #[.int .i64 n, .slice x (nw n) c], .agg #[.int .i64 m, .slice y (nw m) d], .pointer (some ⟨w.heap.size, 0, none⟩), .pointer (some ⟨w.heap.size + 1, 0, none⟩), .pointer (some ⟨w.heap.size + 1 + 1, 0, none⟩), .int .i64 ((z.val : Nat) : Int), .int .u64 ((wd p z.val : Nat) : Int), undef, .agg #[.int .i64 n, .slice x (nw n) c], .pointer (some ⟨w.heap.size, 1, none⟩), .slice x (nw n) c, .int .i64 ((nw n : Nat) : Int), .pointer (some ⟨w.heap.size + 1, 1, none⟩), .slice y (nw m) d, .int .i64 ((nw m : Nat) : Int), .int .i64 (C : Int), .func (.func 55) #[] #[.pointer (some ⟨w.heap.size + 1 + 1 + 1 + 1, 0, none⟩), .pointer (some ⟨w.heap.size + 1 + 1 + 1, 0, none⟩)], .int .i64 ((z.val : Nat) : Int), .int .u64 ((wd p z.val : Nat) : Int), undef, undef, undef, undef, undef, undef, undef, undef], defers := [] }) ?assign ?body ?done ?stop
  case assign =>
    intro l z W K hK
    simp only [encs]
    gi_wp2
    exact hK
  case body =>
    rintro l pre z W ⟨⟨hz, c0, c1, c2, c3⟩, hB, hB5⟩ _
    have hzl := z.isLt
    have WO := word_any (.int .i64 m) y d (nw m) q z.val W (H2.out.words.below hB) (fun hk => wd_out H2.out.out hk)
    have CM := fun W => cmpu_any (wd p z.val) (wd q z.val) W
    have HZ := Lib.hid hz
    have HB := Lib.hid hB
    have HB5 := Lib.hid hB5
    have hWs := hB5.size
    by_cases hv : cmp3 (wd p z.val) (wd q z.val) = 0
    · have HV := Lib.hid (cmp3_zero hv)
      rw [hv] at CM
      clear hz hB hB5 hv
      gi_wp2_with fail
      refine ⟨trivial, (CallsIn.inRound l (callsIn_wide.2 WO)).mono ?_⟩
      rintro e w2 ⟨rfl, b2⟩
      have k0 : w2.cell? ⟨w.heap.size + 1, 0, none⟩ = some (.int .i64 m) := by rw [b2.cell (by have := HS0.out; show w.heap.size + 1 < _; omega)]; exact c0
      have k1 : w2.cell? ⟨w.heap.size + 1, 1, none⟩ = some (.slice y (nw m) d) := by rw [b2.cell (by have := HS0.out; show w.heap.size + 1 < _; omega)]; exact c1
      have k2 : w2.cell? ⟨w.heap.size + 1 + 1, 0, none⟩ = some (.int .i64 0) := by rw [b2.cell (by have := HS0.out; show w.heap.size + 1 + 1 < _; omega)]; exact c2
      have k3 : w2.frozen? ⟨w.heap.size + 1 + 1, 0, none⟩ = false := by rw [b2.frozen (by have := HS0.out; show w.heap.size + 1 + 1 < _; omega)]; exact c3
      have KO : Hid (KeepsOthers W w2) := KeepsOthers.of_grownBy (row := none) (grown_below b2) (fun j o e => by cases e)
      have KB : Hid (Below (w.heap.size + 5) W w2) := b2.mono (by have := HS0.out; omega)
      have HB2 := Lib.hid (on HB.out b2)
      clear b2 c0 c1 c2 c3 WO
      gi_wp2_with fail
      refine ⟨trivial, (CallsIn.inRound l (callsIn_wide.2 (CM _))).mono ?_⟩
      rintro e w3 ⟨rfl, rfl⟩
      gi_wp2
      exact ⟨KO.out, KB.out, ⟨fun t ht => by rcases List.mem_append.1 ht with h | h; · exact HZ.out t h
                                             · rw [List.mem_singleton.1 h]; exact HV.out, k0, k1, k2, k3⟩, HB2.out, HB5.out.trans KB.out⟩
    · have HV := Lib.hid hv
      have hne : ((cmp3 (wd p z.val) (wd q z.val)) == 0) = false := by simpa using hv
      generalize hr : cmp3 (wd p z.val) (wd q z.val) = r at *
      have HRr := Lib.hid hr
      clear hz hB hB5 hv hr
      gi_wp2_with fail
      refine ⟨trivial, (CallsIn.inRound l (callsIn_wide.2 WO)).mono ?_⟩
      rintro e w2 ⟨rfl, b2⟩
      have k2 : w2.cell? ⟨w.heap.size + 1 + 1, 0, none⟩ = some (.int .i64 0) := by rw [b2.cell (by have := HS0.out; show w.heap.size + 1 + 1 < _; omega)]; exact c2
      have k3 : w2.frozen? ⟨w.heap.size + 1 + 1, 0, none⟩ = false := by rw [b2.frozen (by have := HS0.out; show w.heap.size + 1 + 1 < _; omega)]; exact c3
      have KO : Hid (KeepsOthers W w2) := KeepsOthers.of_grownBy (row := none) (grown_below b2) (fun j o e => by cases e)
      have HB2 := Lib.hid (on HB.out b2)
      clear b2 c0 c1 c2 c3 WO
      gi_wp2_with fail
      refine ⟨trivial, (CallsIn.inRound l (callsIn_wide.2 (CM _))).mono ?_⟩
      rintro e w3 ⟨rfl, rfl⟩
      gi_wp2
      refine ⟨KO.out.trans (KeepsOthers.setCell _ _ _), ⟨rfl, pre, z, rfl, HZ.out, ?_, ?_⟩, HB2.out.setCell (p := ⟨w.heap.size + 1 + 1, 0, none⟩) (by show w.heap.size ≤ w.heap.size + 1 + 1; omega) _⟩
      · rw [HRr.out]; exact HV.out
      · rw [HRr.out]; exact World.cell?_setCell_same' _ _ _ (by rw [k2]; rfl)
  case done =>
    rintro D ys W hD rfl ⟨⟨hz, c0, c1, c2, c3⟩, hB, hB5⟩ hK
    have hr : cmpP p q (max n m) = 0 := by
      rw [← HQ.out]
      refine cmpP_same (a := 0) (Nat.zero_le _) fun t _ ht => ?_
      obtain ⟨z, hz1, hz2⟩ := dn_mem (C := C) (j := C) (k := t / 64) hC64 (Nat.le_refl _) (by omega) (by omega)
      have := hz z hz1
      rw [hz2] at this
      exact wd_inj this (by omega) (by omega)
    have HRR := Lib.hid hr
    have HB := Lib.hid hB
    have HK := Lib.hid hK
    have HD := Lib.hid hD
    clear hz hr hB hK hD hB5
    gi_wp2
    have hK' := (KeepsOthers.setCell W ⟨w.heap.size + 1 + 1, 0, none⟩ (.int .i64 0)).same D _ HK.out rfl
    refine ⟨by simp, .inl ⟨_, _, rfl, run_takeDeferred hK', ?_⟩⟩
    have hc5 := cell_kept (World.cell?_setCell_same' W ⟨w.heap.size + 1 + 1, 0, none⟩ (.int .i64 0) (by rw [c2]; rfl)) (grownBy_putObj' _ D (.deferred none)) (fun r e => by cases e; exact ⟨_, hK', rfl⟩)
    refine ⟨.int .i64 0, ?_, ret_int HRR.out.symm, ?_⟩
    · simp [results, Tryd.f32, go_sem, hc5]
    · exact (HB.out.setCell (p := ⟨w.heap.size + 1 + 1, 0, none⟩) (by show w.heap.size ≤ w.heap.size + 1 + 1; omega) _).trans (belowK_b (w := w) (Nat.le_refl _) _ D _ _ (by have := HD.out; have := HS0.out; omega) hK' rfl rfl)
  case stop =>
    rintro D cc pre W hD ⟨j, hj, rfl⟩ ⟨⟨rfl, init, z, he, hz, hv, hc⟩, hB⟩ hK
    obtain ⟨i, rfl, rfl, hzi⟩ := dn_snoc hC64 hj he
    have hr : cmpP p q (max n m) = cmp3 (wd p z.val) (wd q z.val) := by
      rw [← HQ.out, cmpP_same (a := 64 * (z.val + 1)) (by omega) (fun t t1 t2 => by
        obtain ⟨z', hz1, hz2⟩ := dn_mem (C := C) (j := i) (k := t / 64) hC64 (by omega) (by omega) (by omega)
        have := hz z' hz1
        rw [hz2] at this
        exact wd_inj this (by omega) (by omega)), cmp_word, if_neg hv]
    have HRR := Lib.hid hr
    have HB := Lib.hid hB
    have HK := Lib.hid hK
    have HD := Lib.hid hD
    clear hz hr hB hK hD he hv
    gi_wp2
    refine ⟨by simp, .inl ⟨_, _, rfl, run_takeDeferred HK.out, ?_⟩⟩
    have hc5 := cell_kept hc (grownBy_putObj' _ D (.deferred none)) (fun r e => by cases e; exact ⟨_, HK.out, rfl⟩)
    refine ⟨_, ?_, ret_int HRR.out.symm, HB.out.trans (belowK_b (w := w) (Nat.le_refl _) _ D _ _ (by have := HD.out; have := HS0.out; omega) HK.out rfl rfl)⟩
    simp [results, Tryd.f32, go_sem, hc5]
end Go.Proofs.YtooehfjappckmaaDoor
