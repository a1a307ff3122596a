/-
  What the document's cover does with tokens.
-/
import Derived.Test.YtbadingdklenhaaDoorParseRefCvKit
import Derived.Test.YtbadingdklenhaaDoorParseCover
namespace Go.Proofs.YtbadingdklenhaaDoor
set_option maxRecDepth 100000
open Go.RowKit

theorem REl.drewN {sb g C : Nat} {L : List Tk} {wo : World} {c : Int} {ve : Value} {l : List Int} {q : Nat × Nat} {wr : World} (h : REl sb g C L wo c ve l q wr) (n : Nat) : REl sb g C L wo c ve l q (wr.drewN n) := by
  have nb : Below wr.heap.size wr (wr.drewN n) := below_drewN (Below.refl _ _) n
  exact ⟨own_next h.own nb, (nb.block _ (lt_of_block h.blk)).trans h.blk, h.st.next nb, h.kb.next nb⟩
/-- A set's variable is there, its cost is read. -/
theorem REl.begin {sb g C : Nat} {L : List Tk} {wo w6 : World} {c : Int} {q : Nat × Nat} (hs : sb < wo.heap.size) (hg : g < wo.heap.size) (kb : Kb sb (wo.alloc (.cells #[.int .i64 0, .slice none 0 0] 65)) w6) (h : St sb g C L q w6) : REl sb g C L wo c (.slice none 0 0) [] q (w6.setCell ⟨wo.heap.size, 0, none⟩ (.int .i64 c)) := by
  have hb : w6.heap[wo.heap.size]? = some (.cells #[.int .i64 0, .slice none 0 0] 65 (0, 0)) := (kb.block _ (by simp) (by omega)).trans (heap_alloc_new _ _)
  exact ⟨World.ownsRow_nil _ _ _ _, heap_setCell_same w6 _ 0 _ _ _ hb, h.other (a := ⟨wo.heap.size, 0, none⟩) (show wo.heap.size ≠ sb by omega) (show wo.heap.size ≠ g by omega) _, ((Kb.of (new_below wo _)).trans kb).new (a := ⟨wo.heap.size, 0, none⟩) (Nat.le_refl _) _⟩
theorem REl.cells {sb g C : Nat} {L : List Tk} {wo : World} {c : Int} {ve : Value} {l : List Int} {q : Nat × Nat} {wr : World} (h : REl sb g C L wo c ve l q wr) : wr.cell? ⟨wo.heap.size, 0, none⟩ = some (.int .i64 c) ∧ wr.cell? ⟨wo.heap.size, 1, none⟩ = some ve ∧ wr.frozen? ⟨wo.heap.size, 0, none⟩ = false ∧ wr.frozen? ⟨wo.heap.size, 1, none⟩ = false ∧ wo.heap.size < wr.heap.size := by
  have h1 := h.blk
  refine ⟨?_, ?_, frozen_of_row _ _ _ _ _ h1, frozen_of_row _ _ _ _ _ h1, lt_of_block h1⟩ <;> (unfold World.cell?; simp only [h1]; rfl)
theorem REl.kb' {sb g C : Nat} {L : List Tk} {wo w' : World} {c : Int} {ve : Value} {l : List Int} {q q' : Nat × Nat} {wr : World} (h : REl sb g C L wo c ve l q wr) (hs : sb < wo.heap.size) (kb : Kb sb wr w') (h1 : St sb g C L q' w') : REl sb g C L wo c ve l q' w' :=
  ⟨kb.own (by omega) h.own, (kb.block _ (lt_of_block h.blk) (by omega)).trans h.blk, h1, h.kb.trans kb⟩
theorem REl.goes {sb g C : Nat} {L : List Tk} {wo : World} {c : Int} {ve : Value} {l : List Int} {k k' : Nat} {wr : World} (h : REl sb g C L wo c ve l (k, 0) wr) (hs : sb < wo.heap.size) (hk : k' < L.length) : REl sb g C L wo c ve l (k', 0) (wr.setCell ⟨sb, 1, none⟩ (.int .i64 (k' : Nat))) :=
  ⟨ownsRow_setCell_below (a := ⟨sb, 1, none⟩) h.own (show sb < wo.heap.size + 1 by omega) _, (Below.heap_setCell _ ⟨sb, 1, none⟩ _ _ (show wo.heap.size ≠ sb by omega)).trans h.blk, h.st.goes hk, h.kb.store (a := ⟨sb, 1, none⟩) rfl _⟩
set_option maxHeartbeats 8000000 in
theorem rcover_any (sb g C : Nat) (L : List Tk) (hE : EndL L) (hLn : L.length ≤ 2000000) (k0 : Nat) (w : World) (h : St sb g C L (k0, 0) w) :
    Calls Tryd.prog 15 #[.pointer (some ⟨sb, 0, none⟩)] w (RIs sb g C L (coverR L k0) w) := by
  have HLn := Lib.hid hLn
  clear hLn
  have NB := fun lo hi q W hW => rnumber_any sb g C L hE q lo hi W hW
  have WI := fun q W hW => rword_any sb g C L hE q ⟨#[115, 101, 116]⟩ setW rfl W hW
  have IS := fun q W hW => ris_any sb g C L q ⟨#[115, 101, 116]⟩ setW rfl W hW
  have FL := fun e ei he q W hW => rfail_any sb g C L q e ei he W hW
  obtain ⟨i0, hi0, hz01, hz02, hz03⟩ := info_parts infoDs
  obtain ⟨j0, hj0, hy01, hy02, hy03⟩ := info_parts infoI
  have hs0 := h.size
  have hg0 := h.toks.1
  have HI0 := Lib.hid (And.intro ((iblk_new w (.int .i64 0) (.int .i64 0) (.slice none 0 0) (.slice none 0 0) (.int .i64 0) (.slice none 0 0) 36).next (new_below _ (.cells #[.int .i64 3, .int .i64 0, .slice none 0 0, .slice none 0 0, .int .i64 0, .slice none 0 0] 36)))
    (by have := iblk_new (w.alloc (.cells #[.int .i64 0, .int .i64 0, .slice none 0 0, .slice none 0 0, .int .i64 0, .slice none 0 0] 36)) (.int .i64 3) (.int .i64 0) (.slice none 0 0) (.slice none 0 0) (.int .i64 0) (.slice none 0 0) 36; rw [World.size_alloc] at this; exact this))
  have HS0 := Lib.hid ((h.next (new_below _ (.cells #[.int .i64 0, .int .i64 0, .slice none 0 0, .slice none 0 0, .int .i64 0, .slice none 0 0] 36))).next (new_below _ (.cells #[.int .i64 3, .int .i64 0, .slice none 0 0, .slice none 0 0, .int .i64 0, .slice none 0 0] 36)))
  have HK0 := Lib.hid (((Kb.refl sb w).alloc (.cells #[.int .i64 0, .int .i64 0, .slice none 0 0, .slice none 0 0, .int .i64 0, .slice none 0 0] 36)).alloc (.cells #[.int .i64 3, .int .i64 0, .slice none 0 0, .slice none 0 0, .int .i64 0, .slice none 0 0] 36))
  have hNB1 := NB 0 4096 (k0, 0) _ HS0.out
  obtain ⟨q0, hq0⟩ : ∃ q, nN L 0 4096 (k0, 0) = q := ⟨_, rfl⟩
  rw [hq0] at hNB1
  obtain ⟨R, hR⟩ : ∃ R, coverR L k0 = R := ⟨_, rfl⟩
  rw [hR]
  have hF : ∀ z l j, (fun (z : Int) (S : List (Int × List Int)) (k2 : Nat) => Rd.ok (⟨3, 0, [], [], z, S⟩ : In) k2) z l j = .ok ⟨3, 0, [], [], z, l⟩ j := fun _ _ _ => rfl
  obtain ⟨F, hFe⟩ : ∃ F, (fun (z : Int) (S : List (Int × List Int)) (k2 : Nat) => Rd.ok (⟨3, 0, [], [], z, S⟩ : In) k2) = F := ⟨_, rfl⟩
  have hcv : coverR L k0 = (numR L 0 4096 22 k0).nx fun z k1 => (setsG L z [] k1).nx (F z) := by rw [← hFe]; rfl
  rw [hFe] at hF
  have HF := Lib.hid hF
  -- the size, or it fails
  have hbeg : ∀ z, (∀ m k', (0 : Nat) = 0 → numR L 0 4096 22 k0 = .ok m k' → z = m) → Alt (fun k => (setsG L z [] k).nx (F z)) R q0 ∧ (q0.2 = 0 → 0 ≤ z ∧ z ≤ 4096) := fun z hz => by
    have ha0 : Alt (fun k => (numR L 0 4096 22 k).nx fun m k' => (setsG L m [] k').nx (F m)) R (k0, 0) := .inl ⟨rfl, by rw [← hR, hcv]⟩
    have ha1 := ha0.num hz
    rw [hq0] at ha1
    refine ⟨ha1, fun h0 => ?_⟩
    rcases nN_ok (L := L) (lo := 0) (hi := 4096) (q := (k0, 0)) with ⟨_, m, k, e1, e2⟩ | ⟨_, j, er, e1, e2⟩ | ⟨z0, _⟩
    · obtain ⟨_, _, _, _, v1, v2, _⟩ := numR_ok e1
      rw [hz m k rfl e1]
      exact ⟨v1, v2⟩
    · rw [hq0] at e2
      rw [e2] at h0
      exact absurd h0 (numR_err e1)
    · exact absurd rfl z0
  have HBEG := Lib.hid hbeg
  clear hbeg hcv hF hFe hR hq0 h
  go_enter Tryd.func15, Tryd.ntmps15
  go_wp2_with fail
  with_reducible refine hNB1.mono ?_
  rintro r w2 ⟨z, rfl, hz, h2, kb2⟩
  have hbg := HBEG.out z (fun m k' _ hm => by first | exact hz m k' trivial hm | exact hz m k' rfl hm)
  have hb2 := HI0.out.2.kb kb2 (by omega)
  have hres := HI0.out.1.kb kb2 (by omega)
  obtain ⟨b0, b1, b2, b3, b4, b5⟩ := hb2.box
  have f4 := hb2.free 4
  have hRC : RCv sb g C L z (F z) R w (.slice none 0 0) [] [] q0 (w2.setCell ⟨w.heap.size + 1, 4, none⟩ (.int .i64 z)) :=
    ⟨hres.other (a := ⟨w.heap.size + 1, 4, none⟩) (show w.heap.size ≠ w.heap.size + 1 by omega) _, heap_setCell_same w2 (w.heap.size + 1) 4 _ _ _ hb2, World.ownsRow_nil _ _ _ _, rfl, fun i s v a => by simp at a, h2.other (a := ⟨w.heap.size + 1, 4, none⟩) (show w.heap.size + 1 ≠ sb by omega) (show w.heap.size + 1 ≠ g by omega) _, (HK0.out.trans kb2).new (a := ⟨w.heap.size + 1, 4, none⟩) (show w.heap.size ≤ w.heap.size + 1 by omega) _, hbg.1, .inl (by simp)⟩
  have HRC := Lib.hid hRC
  have HZ := Lib.hid hbg.2
  clear hb2 hres hRC h2 kb2 hz HI0 HS0 HK0 hbg HBEG hNB1
  go_wp2
  go_loopw [5, 6, 7, 8] (fun _ _ _ _ wr => ∃ (va : Value) (S : List (Int × List Int)) (us : List Value) (q : Nat × Nat), Hid (RCv sb g C L z (F z) R w va S us q wr) ∧ Hid (q.2 = 0 → 0 ≤ z ∧ z ≤ 4096)) (fun _ _ _ _ wr => leftD sb L.length wr)
  case atStart => exact ⟨_, [], [], _, HRC, HZ⟩
  case round =>
    obtain ⟨va, S, us, q, hA, hZq⟩ := hrel
    have HA := Lib.hid hA.out
    have HZ1 := Lib.hid hZq.out
    clear hA HRC HZ hZq
    obtain ⟨A, cp, rfl⟩ := own_sliceP HA.out.own
    obtain ⟨k, e⟩ := q
    obtain ⟨c0, c1, c2, _, _⟩ := HA.out.st.cells
    have hs1 := HA.out.st.size
    simp only at c1 c2
    have hklt : k < L.length := HA.out.st.lt
    have HL := Lib.hid HA.out.st.left
    by_cases h0 : e = 0
    · subst h0
      have IS1 := IS (k, 0) wr HA.out.st
      simp only at IS1
      obtain ⟨hz1, hz2⟩ := HZ1.out rfl
      have halt : (setsG L z S k).nx (F z) = R := by
        rcases HA.out.alt with ⟨_, h⟩ | ⟨h, _⟩
        · exact h
        · exact absurd rfl h
      have hlen : S.length ≤ 4096 := by
        rcases HA.out.len with h | ⟨_, h⟩
        · exact h
        · exact absurd rfl h
      rw [setsG_eq hE z S hklt] at halt
      cases hw : isW L setW k with
      | false =>
        rw [hw] at IS1 halt
        have HRR := Lib.hid (show Rd.ok (⟨3, 0, [], [], z, S⟩ : In) k = R from (HF.out z S k).symm.trans halt)
        clear halt WI NB FL
        go_wp2_with fail
        with_reducible refine IS1.mono ?_
        rintro r w3 ⟨rfl, b3⟩
        have hbx := HA.out.box.next b3
        have hrs := HA.out.res.next b3
        obtain ⟨d0, d1, d2, d3, d4, d5⟩ := hbx.box
        obtain ⟨e0, e1, e2, e3, e4, e5⟩ := hrs.box
        have f := hrs.free
        have f0 := f 0
        have f1 := f 1
        have f2 := f 2
        have f3 := f 3
        have f4 := f 4
        have f5 := f 5
        have HO := Lib.hid (own_next HA.out.own b3)
        have HS := Lib.hid (HA.out.st.next b3)
        have HK := Lib.hid (HA.out.kb.next b3)
        have HW := Lib.hid (fun i s v a b => (HA.out.rows i s v a b).next b3)
        clear f hbx hrs b3 IS1 c0 c1 c2
        go_wp2
        refine bodyPost_ret (v := inV ⟨3, 0, [], [], z, S⟩ (.slice none 0 0) (.slice none 0 0) (.slice A S.length cp)) (by simp [results, Tryd.results15, go_sem, inV, e0, e1, e2, e3, e4, e5]) rfl ?_
        exact ⟨_, (k, 0), _, _, _, _, _, _, _, _, _, _, _, _, rfl, rfl, HS.out.set6 (by omega) (by omega), HK.out.set6 (Nat.le_refl _), .inl ⟨rfl, _, HRR.out.symm, ins_sets (own_set6 HO.out (by omega)) (by omega) HA.out.ul (fun i s v a b => Lies.imp ((HW.out i s v a b).held (held_set6 (b := w.heap.size) (fun q hq => by have := hq.1; omega))) (fun q hq => by have := hq.1; omega))⟩⟩
      | true =>
        rw [hw] at IS1 halt
        simp only [if_true] at halt
        have hs5 : sb < wr.heap.size := hs1
        by_cases h46 : S.length = 4096
        · have hge : (4096 : Int) ≤ (S.length : Int) := by omega
          have FL1 := FL 22 22 rfl (k, 0)
          rw [show nF 22 (k, 0) = (k, 22) from rfl] at FL1
          have WI1 := WI (k, 22)
          rw [nW_snd (show ((k, 22) : Nat × Nat).2 ≠ 0 by show (22 : Nat) ≠ 0; omega)] at WI1
          have NB1 := NB 0 2147483648 (k, 22)
          rw [nN_snd (show ((k, 22) : Nat × Nat).2 ≠ 0 by show (22 : Nat) ≠ 0; omega)] at NB1
          rw [if_pos h46] at halt
          have HRR := Lib.hid (show R = .no k 22 from halt.symm)
          clear halt WI NB FL IS h46
          go_wp2_with fail
          with_reducible refine IS1.mono ?_
          rintro r w3 ⟨rfl, b3⟩
          obtain ⟨d0, d1, d2, d3, d4, d5⟩ := (HA.out.box.next b3).box
          go_wp2_with fail
          with_reducible refine (FL1 _ (HA.out.st.next b3)).mono ?_
          rintro r w4 ⟨rfl, h4, kb4⟩
          go_wp2_with fail
          with_reducible refine (WI1 _ h4).mono ?_
          rintro r w5 ⟨rfl, h5, kb5⟩
          have HKo := Lib.hid (((Kb.of (r := sb) b3).trans kb4).trans kb5)
          have hso := h5.size
          have hgo := h5.toks.1
          clear d0 d1 d2 d3 d4 d5 b3 kb4 kb5 h4 IS1 FL1 WI1 c0 c1 c2
          go_wp2_with fail
          with_reducible refine (NB1 _ (h5.next (new_below _ _))).mono ?_
          rintro r w6 ⟨c, rfl, _, h6, kb6⟩
          have hblk : w6.heap[w5.heap.size]? = some (.cells #[.int .i64 0, .slice none 0 0] 65 (0, 0)) := (kb6.block _ (by simp) (by omega)).trans (heap_alloc_new _ _)
          have y0 : w6.cell? ⟨w5.heap.size, 0, none⟩ = some (.int .i64 0) := by unfold World.cell?; simp only [hblk]; rfl
          have g0 : w6.frozen? ⟨w5.heap.size, 0, none⟩ = false := frozen_of_row w6 _ _ _ _ hblk
          have HEl := Lib.hid (REl.begin (c := c) hso hgo kb6 h6)
          obtain ⟨W6, hW6⟩ : ∃ W6, W6 = w6.setCell ⟨w5.heap.size, 0, none⟩ (.int .i64 c) := ⟨_, rfl⟩
          have hE6 : REl sb g C L w5 c (.slice none 0 0) [] (k, 22) W6 := by rw [hW6]; exact HEl.out
          have HW6 := Lib.hid hW6
          clear hW6 HEl h6 kb6 h5 hblk NB1
          go_wp2
          rw [← HW6.out]
          clear HW6
          obtain ⟨s0, s1, g1, g2, hsl⟩ := hE6.cells
          obtain ⟨t0, t1, t2, g3, g4⟩ := hE6.st.cells
          have hss := hE6.st.size
          simp only at t1 t2
          go_quiet (fail)
          generalize hW7 : W6.drewN _ = W7
          have hE9 : REl sb g C L w5 c (.slice none 0 0) [] (k, 22) W7 := by rw [← hW7]; exact hE6.drewN _
          clear hW7 s0 s1 g1 g2 hsl t0 t1 t2 g3 g4 hss hE6
          obtain ⟨t0, t1, t2, g3, g4⟩ := hE9.st.cells
          have hss := hE9.st.size
          simp only at t1 t2
          go_wp2
          have HFN := Lib.hid (show Alt (fun k1 => (setsG L z (S ++ [(c, [])]) k1).nx (F z)) R (k, 22) from .inr ⟨(show ((k, 22) : Nat × Nat).2 ≠ 0 by show (22 : Nat) ≠ 0; omega), HRR.out⟩)
          have HLE := Lib.hid (show (S ++ [(c, ([] : List Int))]).length ≤ 4096 ∨ ((S ++ [(c, ([] : List Int))]).length ≤ 4097 ∧ ((k, 22) : Nat × Nat).2 ≠ 0) from .inr ⟨by simp; omega, (show ((k, 22) : Nat × Nat).2 ≠ 0 by show (22 : Nat) ≠ 0; omega)⟩)
          go_loopw [7, 8] (fun last _ wi => last = .int .i64 (-1) ∧ Hid (REl sb g C L w5 c (.slice none 0 0) [] (k, 22) wi)) (fun _ _ _ => 0)
          case atStart => exact ⟨rfl, hE9⟩
          case round =>
            obtain ⟨rfl, hEl⟩ := hrel
            have HE1 := Lib.hid hEl.out
            clear hEl hE9
            obtain ⟨s0, s1, g1, g2, hsl⟩ := HE1.out.cells
            obtain ⟨t0, t1, t2, g3, g4⟩ := HE1.out.st.cells
            have hss := HE1.out.st.size
            simp only at t1 t2
            go_wp2_with fail
            go_quiet (fail)
            generalize hW9 : wr.drewN _ = W9
            have hE9 : REl sb g C L w5 c (.slice none 0 0) [] (k, 22) W9 := by rw [← hW9]; exact HE1.out.drewN _
            clear hW9 s0 s1 g1 g2 hsl t0 t1 t2 g3 g4 hss HE1
            obtain ⟨s0, s1, g1, g2, hsl⟩ := hE9.cells
            obtain ⟨hrs, hbx, hown, hrw, hkb⟩ := HA.out.kb' hs0 (HKo.out.trans hE9.kb)
            have HX := Lib.hid (fun g' cap' w8 a b d => HA.out.step (q' := (k, 22)) (g' := g') (cap' := cap') (w8 := w8) hs0 hg0 HKo.out hE9 HFN.out HLE.out a b d)
            have HOW := Lib.hid (hown.alloc (.cells #[.int .i64 c, .slice none 0 0] 65))
            obtain ⟨d0, d1, d2, d3, d4, d5⟩ := hbx.box
            have hblt := hbx.lt
            have HBX := Lib.hid hbx
            clear hrs hbx hown hrw hkb
            go_wp2_with (at_builtin; refine wpList_append_lies _ rfl _ _ 34 rfl (w.heap.size + 2) 65 i0 (.agg #[.int .i64 0, .slice none 0 0]) 2 32 Tryd.underlying34 hi0 hz01 hz02 hz03 rfl (by decide) _ _ _ rfl HOW.out ⟨W9.heap.size, 0, none⟩ 1 1 [.int .i64 c, .slice none 0 0] rfl rfl (World.news_of_block (heap_alloc_new _ _)) (set_oneP _ _ _ _) (by omega) (by unfold maxLen; omega) (by omega) (by simp; omega) _ rfl ?_)
            intro g' cap' w8 hown' hgrow hat hlt8
            have HE := Lib.hid (HX.out _ _ _ hown' hgrow (by rw [World.size_alloc]; exact hat))
            have hbk := (HBX.out.next (new_below _ (.cells #[.int .i64 c, .slice none 0 0] 65))).keep (hgrow.block (w.heap.size + 1) (by simp; omega) (fun e => by have := (HOW.out.lt _ e.symm).1; omega))
            have ow := hbk.box.c5
            have fw := hbk.free 5
            clear hbk hown' hgrow hat HX HOW HBX d0 d1 d2 d3 d4 d5
            go_wp2
            exact ⟨⟨_, _, _, (k, 22), HE, fun q0 => absurd q0 (show ((k, 22) : Nat × Nat).2 ≠ 0 by show (22 : Nat) ≠ 0; omega)⟩, by rw [HE.out.st.left, HL.out, if_neg (show ((k, 22) : Nat × Nat).2 ≠ 0 by show (22 : Nat) ≠ 0; omega)]; simp; omega⟩
        · have hlt46 : S.length < 4096 := by omega
          have hge : ¬ (4096 : Int) ≤ (S.length : Int) := by omega
          have WI1 := WI (k, 0)
          rw [show nW L setW (k, 0) = (k + 1, 0) by unfold nW; rw [if_pos rfl]; exact if_pos hw] at WI1
          have NB1 := NB 0 2147483648 (k + 1, 0)
          have hk1l := isW_goes hE hw
          rw [if_neg h46] at halt
          rcases nN_ok (L := L) (lo := 0) (hi := 2147483648) (q := (k + 1, 0)) with ⟨_, cc, k2, z1, z2⟩ | ⟨_, j, er, z1, z2⟩ | ⟨zz, _⟩
          · have z1 : numR L 0 2147483648 22 (k + 1) = .ok cc k2 := z1
            obtain ⟨_, _, _, _, _, _, hk2⟩ := numR_ok z1
            have hk2l : k2 < L.length := by
              have := numR_fit hE (lo := 0) (hi := 2147483648) (e := 22) hk1l (.inr rfl)
              rw [z1] at this
              exact this.2
            rw [z1] at halt
            rw [z2] at NB1
            have HZ2 := Lib.hid z1
            obtain ⟨x, hx⟩ : ∃ x, L[k2]? = some x := ⟨_, List.getElem?_eq_getElem hk2l⟩
            obtain ⟨kd, hkd⟩ : ∃ kd : Int, ((x.kind : Nat) : Int) = kd := ⟨_, rfl⟩
            have HX0 := Lib.hid hx
            have HKD := Lib.hid hkd
            by_cases hc2 : x.kind = 2
            · have hg3 := hE.goes hx (by omega)
              have htk : tokR L 2 k2 = .ok x (k2 + 1) := by unfold tokR; rw [hx]; exact if_pos hc2
              have halt : ((tokR L 2 k2).nx fun _ k3 => (elemsG L z 0 [] k3).nx fun l k4 => setsG L z (S ++ [(cc, l)]) k4).nx (F z) = R := halt
              rw [htk] at halt
              have halt : ((elemsG L z 0 [] (k2 + 1)).nx fun l k4 => setsG L z (S ++ [(cc, l)]) k4).nx (F z) = R := halt
              rw [nx_assoc] at halt
              have HRR := Lib.hid halt
              have hkn : kd = 2 := by omega
              have hk21 : k + 1 ≤ k2 := by omega
              have FL4 := fun q => FL 4 4 rfl q
              clear halt WI NB FL IS h46 z1 z2 htk hc2 hx hkd hk2 hw hk1l
              subst hkn
              go_wp2_with fail
              with_reducible refine IS1.mono ?_
              rintro r w3 ⟨rfl, b3⟩
              obtain ⟨d0, d1, d2, d3, d4, d5⟩ := (HA.out.box.next b3).box
              go_wp2_with fail
              with_reducible refine (WI1 _ (HA.out.st.next b3)).mono ?_
              rintro r w5 ⟨rfl, h5, kb5⟩
              have HKo := Lib.hid ((Kb.of (r := sb) b3).trans kb5)
              have hso := h5.size
              have hgo := h5.toks.1
              clear d0 d1 d2 d3 d4 d5 b3 kb5 IS1 WI1 c0 c1 c2
              go_wp2_with fail
              with_reducible refine (NB1 _ (h5.next (new_below _ _))).mono ?_
              rintro r w6 ⟨c, rfl, hc, h6, kb6⟩
              have hblk : w6.heap[w5.heap.size]? = some (.cells #[.int .i64 0, .slice none 0 0] 65 (0, 0)) := (kb6.block _ (by simp) (by omega)).trans (heap_alloc_new _ _)
              have y0 : w6.cell? ⟨w5.heap.size, 0, none⟩ = some (.int .i64 0) := by unfold World.cell?; simp only [hblk]; rfl
              have g0 : w6.frozen? ⟨w5.heap.size, 0, none⟩ = false := frozen_of_row w6 _ _ _ _ hblk
              have HEl := Lib.hid (REl.begin (c := c) hso hgo kb6 h6)
              obtain rfl : c = cc := hc _ _ (by first | rfl | trivial) HZ2.out
              obtain ⟨W6, hW6⟩ : ∃ W6, W6 = w6.setCell ⟨w5.heap.size, 0, none⟩ (.int .i64 c) := ⟨_, rfl⟩
              have hE6 : REl sb g C L w5 c (.slice none 0 0) [] (k2, 0) W6 := by rw [hW6]; exact HEl.out
              have HW6 := Lib.hid hW6
              clear hW6 HEl h6 kb6 h5 hblk NB1 hc
              go_wp2
              rw [← HW6.out]
              clear HW6
              obtain ⟨s0, s1, g1, g2, hsl⟩ := hE6.cells
              obtain ⟨t0, t1, t2, g3, g4⟩ := hE6.st.cells
              have hss := hE6.st.size
              simp only at t1 t2
              obtain ⟨v0, _, _, _, _⟩ := hE6.st.toks.get HX0.out
              rw [HKD.out] at v0
              have i1 : (0 : Int) ≤ (k2 : Int) := by omega
              have i2 : (k2 : Int) < (L.length : Int) := by omega
              have hgl := hE6.st.toks.1
              go_quiet (fail)
              generalize hW7 : W6.drewN _ = W7
              have hE7 : REl sb g C L w5 c (.slice none 0 0) [] (k2, 0) W7 := by rw [← hW7]; exact hE6.drewN _
              clear hW7 s0 s1 g1 g2 hsl t0 t1 t2 g3 g4 hss hE6 v0 y0 g0
              obtain ⟨t0, t1, t2, g3, g4⟩ := hE7.st.cells
              have hss := hE7.st.size
              simp only at t1 t2
              have ik : (k2 : Int) + 1 ≤ 9223372036854775807 := by have := HLn.out; omega
              have HE8 := Lib.hid (hE7.goes (k' := k2 + 1) hso hg3)
              have HRR0 := Lib.hid (show (elemsG L z (-1 + 1) [] (k2 + 1)).nx (fun l k4 => (setsG L z (S ++ [(c, l)]) k4).nx (F z)) = R from HRR.out)
              clear hE7 HRR
              go_wp2
              go_loopw [7, 8] (fun last _ wi => ∃ (m : Int) (ve : Value) (l : List Int) (kk : Nat), last = .int .i64 m ∧ l.length ≤ kk ∧ k + 1 ≤ kk ∧ -1 ≤ m ∧ Hid (REl sb g C L w5 c ve l (kk, 0) wi) ∧ Hid ((elemsG L z (m + 1) l kk).nx (fun l k4 => (setsG L z (S ++ [(c, l)]) k4).nx (F z)) = R)) (fun _ _ wi => leftD sb L.length wi)
              case atStart => exact ⟨-1, _, [], k2 + 1, rfl, by simp, by omega, by omega, HE8, HRR0⟩
              case round =>
                obtain ⟨m, ve, l, kk, rfl, hlk, hkk, hm1, hEl, hQ⟩ := hrel
                have HE1 := Lib.hid hEl.out
                have HQ1 := hQ.out
                clear hEl hQ HE8 HRR0 t0 t1 t2 g3 g4 hss
                obtain ⟨A', cp', rfl⟩ := own_sliceP HE1.out.own
                have hkl : kk < L.length := HE1.out.st.lt
                obtain ⟨y, hy⟩ : ∃ y, L[kk]? = some y := ⟨_, List.getElem?_eq_getElem hkl⟩
                rw [elemsG_at hE hy] at HQ1
                obtain ⟨ye, hye⟩ : ∃ ye : Int, ((y.kind : Nat) : Int) = ye := ⟨_, rfl⟩
                obtain ⟨s0, s1, g1, g2, hsl⟩ := HE1.out.cells
                obtain ⟨t0, t1, t2, g3, g4⟩ := HE1.out.st.cells
                have hss := HE1.out.st.size
                simp only at t1 t2
                obtain ⟨v0, _, v2, _, _⟩ := HE1.out.st.toks.get hy
                rw [hye] at v0
                have i1 : (0 : Int) ≤ (kk : Int) := by omega
                have i2 : (kk : Int) < (L.length : Int) := by omega
                have hgl := HE1.out.st.toks.1
                have hal : (l.length : Int) ≤ 2000000 := by have := HLn.out; omega
                have HIL := Lib.hid HE1.out.st.left
                have HY := Lib.hid hy
                have HYE := Lib.hid hye
                by_cases hc1 : y.kind = 1
                · rw [if_pos hc1] at HQ1
                  have hy1 : ye = 1 := by omega
                  by_cases hr : m < y.n ∧ y.n < z
                  · rw [if_pos hr] at HQ1
                    have HQ2 := Lib.hid HQ1
                    have hg9 := hE.goes hy (by omega)
                    obtain ⟨r1, r2⟩ := hr
                    have r3 : ¬ y.n ≤ m := by omega
                    have r4 : ¬ z ≤ y.n := by omega
                    clear HQ1 hc1 hye hy
                    subst hy1
                    go_wp2_with fail
                    go_quiet (fail)
                    generalize hW8 : wr.drewN _ = W8
                    have hE8 : REl sb g C L w5 c (.slice A' l.length cp') l (kk, 0) W8 := by rw [← hW8]; exact HE1.out.drewN _
                    clear hW8 s0 s1 g1 g2 hsl t0 t1 t2 g3 g4 hss v0 v2 HE1
                    obtain ⟨t0, t1, t2, g3, g4⟩ := hE8.st.cells
                    have hss := hE8.st.size
                    simp only at t1 t2
                    obtain ⟨v0, _, v2, _, _⟩ := hE8.st.toks.get HY.out
                    rw [HYE.out] at v0
                    have hgl8 := hE8.st.toks.1
                    go_wp2_with fail
                    go_quiet (fail)
                    generalize hW9 : W8.drewN _ = W9
                    have hE9 : REl sb g C L w5 c (.slice A' l.length cp') l (kk, 0) W9 := by rw [← hW9]; exact hE8.drewN _
                    clear hW9 t0 t1 t2 g3 g4 hss v0 v2 hE8
                    obtain ⟨s0, s1, g1, g2, hsl⟩ := hE9.cells
                    have HOW := Lib.hid (hE9.own.alloc (.cells #[.int .i64 y.n] 3))
                    have HE9 := Lib.hid hE9
                    clear hE9
                    iterate 29 (first | go_step | go_guarded)
                    have d1 : decide (y.n ≤ m) = false := by simp; omega
                    have d2 : decide (z ≤ y.n) = false := by simp; omega
                    simp only [d1, d2, Bool.or_self]
                    clear d1 d2
                    go_wp2_with (at_builtin; go_loud (refine wpList_append_lies _ rfl _ _ 59 rfl (w5.heap.size + 1) 3 j0 (.int .i64 0) 1 8 Tryd.underlying59 hj0 hy01 hy02 hy03 rfl (by decide) _ _ _ rfl HOW.out ⟨W9.heap.size, 0, none⟩ 1 1 [.int .i64 y.n] rfl rfl (World.news_of_block (heap_alloc_new _ _)) (one_int _) ?c1 ?c2 ?c3 ?c4 _ rfl ?_))
                    case c1 => omega
                    case c2 => unfold maxLen; omega
                    case c3 => omega
                    case c4 => simp; omega
                    intro g' cap' w11 hown' hgrow hat hlt8
                    have HE := Lib.hid (REl.step (q := (kk, 0)) (k2 := kk + 1) HE9.out hso hgo (Below.refl _ _) hg9 hown' hgrow)
                    rw [show ((kk + 1 : Nat) : Int) = (kk : Int) + 1 from by omega] at HE
                    have hrow : ∀ q, (Value.slice A' l.length cp').ownBlock = some q → w5.heap.size + 1 ≤ q := fun q hq => (HE9.out.own.lt q hq).1
                    have nb := new_below W9 (.cells #[.int .i64 y.n] 3)
                    have st11 := (HE9.out.st.next nb).grown hgrow (B := w5.heap.size + 1) ⟨by omega, by omega⟩ hrow
                    have blk11 : w11.heap[w5.heap.size]? = some (.cells #[.int .i64 c, .slice A' l.length cp'] 65 (0, 0)) := (hgrow.block _ (by simp; omega) (fun e => by have := hrow _ e.symm; omega)).trans ((nb.block _ hsl).trans HE9.out.blk)
                    obtain ⟨t0, t1, t2, g3, g4⟩ := st11.cells
                    have hss := st11.size
                    simp only at t1 t2
                    have ow : w11.cell? ⟨w5.heap.size, 1, none⟩ = some (.slice A' l.length cp') := by unfold World.cell?; simp only [blk11]; rfl
                    have fw : w11.frozen? ⟨w5.heap.size, 1, none⟩ = false := frozen_of_row w11 _ _ _ _ blk11
                    have hsl11 := lt_of_block blk11
                    have ik2 : (kk : Int) + 1 ≤ 9223372036854775807 := by have := HLn.out; omega
                    have hnsb : ¬ sb = w5.heap.size := by omega
                    clear hown' hgrow hat HOW hrow nb st11 blk11 s0 s1 g1 g2 hsl HE9
                    go_wp2
                    exact ⟨⟨y.n, _, l ++ [y.n], kk + 1, rfl, by simp; omega, by omega, by omega, HE, HQ2⟩, by have h9 := HE.out.st.lt; rw [HE.out.st.left, HIL.out]; simp only [if_true]; omega⟩
                  · rw [if_neg hr] at HQ1
                    have HFN := Lib.hid (show Alt (fun k1 => (setsG L z (S ++ [(c, l)]) k1).nx (F z)) R (kk, 4) from .inr ⟨by show (4 : Nat) ≠ 0; omega, HQ1.symm⟩)
                    have HLE := Lib.hid (show (S ++ [(c, l)]).length ≤ 4096 ∨ ((S ++ [(c, l)]).length ≤ 4097 ∧ ((kk, 4) : Nat × Nat).2 ≠ 0) from .inl (by simp; omega))
                    have hrr : y.n ≤ m ∨ (¬ y.n ≤ m ∧ z ≤ y.n) := by omega
                    have F4 := FL4 (kk, 0)
                    rw [show nF 4 (kk, 0) = (kk, 4) from rfl] at F4
                    clear HQ1 hc1 hye hy hr FL4
                    subst hy1
                    rcases hrr with r1 | ⟨r1, r2⟩
                    all_goals
                      go_wp2_with fail
                      go_quiet (fail)
                      generalize hW8 : wr.drewN _ = W8
                      have hE8 : REl sb g C L w5 c (.slice A' l.length cp') l (kk, 0) W8 := by rw [← hW8]; exact HE1.out.drewN _
                      clear hW8 s0 s1 g1 g2 hsl t0 t1 t2 g3 g4 hss v0 v2 HE1
                      obtain ⟨t0, t1, t2, g3, g4⟩ := hE8.st.cells
                      have hss := hE8.st.size
                      simp only at t1 t2
                      obtain ⟨v0, _, v2, _, _⟩ := hE8.st.toks.get HY.out
                      rw [HYE.out] at v0
                      have hgl8 := hE8.st.toks.1
                      go_wp2_with fail
                      go_quiet (fail)
                      generalize hW9 : W8.drewN _ = W9
                      have hE9 : REl sb g C L w5 c (.slice A' l.length cp') l (kk, 0) W9 := by rw [← hW9]; exact hE8.drewN _
                      clear hW9 t0 t1 t2 g3 g4 hss v0 v2 hE8
                      go_wp2_with fail
                      with_reducible refine (F4 _ hE9.st).mono ?_
                      rintro r w10 ⟨rfl, h10, kb10⟩
                      have hEa := hE9.kb' hso kb10 h10
                      clear hE9 h10 kb10 F4
                      obtain ⟨s0, s1, g1, g2, hsl⟩ := hEa.cells
                      obtain ⟨hrs, hbx, hown, hrw, hkb⟩ := HA.out.kb' hs0 (HKo.out.trans hEa.kb)
                      have HX := Lib.hid (fun g' cap' w8 a b d => HA.out.step (q' := (kk, 4)) (g' := g') (cap' := cap') (w8 := w8) hs0 hg0 HKo.out hEa HFN.out HLE.out a b d)
                      have HOW := Lib.hid (hown.alloc (.cells #[.int .i64 c, .slice A' l.length cp'] 65))
                      obtain ⟨d0, d1, d2, d3, d4, d5⟩ := hbx.box
                      have hblt := hbx.lt
                      have HBX := Lib.hid hbx
                      clear hrs hbx hown hrw hkb
                      go_wp2_with (at_builtin; refine wpList_append_lies _ rfl _ _ 34 rfl (w.heap.size + 2) 65 i0 (.agg #[.int .i64 0, .slice none 0 0]) 2 32 Tryd.underlying34 hi0 hz01 hz02 hz03 rfl (by decide) _ _ _ rfl HOW.out ⟨w10.heap.size, 0, none⟩ 1 1 [.int .i64 c, .slice A' l.length cp'] rfl rfl (World.news_of_block (heap_alloc_new _ _)) (set_oneP _ _ _ _) (by omega) (by unfold maxLen; omega) (by omega) (by simp; omega) _ rfl ?_)
                      intro g' cap' w11 hown' hgrow hat hlt8
                      have HE := Lib.hid (HX.out _ _ _ hown' hgrow (by rw [World.size_alloc]; exact hat))
                      have hbk := (HBX.out.next (new_below _ (.cells #[.int .i64 c, .slice A' l.length cp'] 65))).keep (hgrow.block (w.heap.size + 1) (by simp; omega) (fun e => by have := (HOW.out.lt _ e.symm).1; omega))
                      have ow := hbk.box.c5
                      have fw := hbk.free 5
                      clear hbk hown' hgrow hat HX HOW HBX d0 d1 d2 d3 d4 d5
                      go_wp2
                      exact ⟨⟨_, _, _, (kk, 4), HE, fun q0 => absurd q0 (show ((kk, 4) : Nat × Nat).2 ≠ 0 by show (4 : Nat) ≠ 0; omega)⟩, by rw [HE.out.st.left, HL.out, if_neg (show ((kk, 4) : Nat × Nat).2 ≠ 0 by show (4 : Nat) ≠ 0; omega)]; simp; omega⟩
                · rw [if_neg hc1] at HQ1
                  have HFN := Lib.hid (show Alt (fun k1 => (setsG L z (S ++ [(c, l)]) k1).nx (F z)) R (kk, 0) from .inl ⟨rfl, HQ1⟩)
                  have HLE := Lib.hid (show (S ++ [(c, l)]).length ≤ 4096 ∨ ((S ++ [(c, l)]).length ≤ 4097 ∧ ((kk, 0) : Nat × Nat).2 ≠ 0) from .inl (by simp; omega))
                  have hy1 : ¬ ye = 1 := by omega
                  have hy2 : (ye == 1) = false := by simp; omega
                  clear HQ1 hc1 hye hy FL4
                  go_wp2_with fail
                  go_quiet (fail)
                  generalize hW8 : wr.drewN _ = W8
                  have hEa : REl sb g C L w5 c (.slice A' l.length cp') l (kk, 0) W8 := by rw [← hW8]; exact HE1.out.drewN _
                  clear hW8 s0 s1 g1 g2 hsl t0 t1 t2 g3 g4 hss v0 v2 HE1
                  obtain ⟨s0, s1, g1, g2, hsl⟩ := hEa.cells
                  obtain ⟨hrs, hbx, hown, hrw, hkb⟩ := HA.out.kb' hs0 (HKo.out.trans hEa.kb)
                  have HX := Lib.hid (fun g' cap' w8 a b d => HA.out.step (q' := (kk, 0)) (g' := g') (cap' := cap') (w8 := w8) hs0 hg0 HKo.out hEa HFN.out HLE.out a b d)
                  have HOW := Lib.hid (hown.alloc (.cells #[.int .i64 c, .slice A' l.length cp'] 65))
                  obtain ⟨d0, d1, d2, d3, d4, d5⟩ := hbx.box
                  have hblt := hbx.lt
                  have HBX := Lib.hid hbx
                  clear hrs hbx hown hrw hkb
                  go_wp2_with (at_builtin; refine wpList_append_lies _ rfl _ _ 34 rfl (w.heap.size + 2) 65 i0 (.agg #[.int .i64 0, .slice none 0 0]) 2 32 Tryd.underlying34 hi0 hz01 hz02 hz03 rfl (by decide) _ _ _ rfl HOW.out ⟨W8.heap.size, 0, none⟩ 1 1 [.int .i64 c, .slice A' l.length cp'] rfl rfl (World.news_of_block (heap_alloc_new _ _)) (set_oneP _ _ _ _) (by omega) (by unfold maxLen; omega) (by omega) (by simp; omega) _ rfl ?_)
                  intro g' cap' w11 hown' hgrow hat hlt8
                  have HE := Lib.hid (HX.out _ _ _ hown' hgrow (by rw [World.size_alloc]; exact hat))
                  have hbk := (HBX.out.next (new_below _ (.cells #[.int .i64 c, .slice A' l.length cp'] 65))).keep (hgrow.block (w.heap.size + 1) (by simp; omega) (fun e => by have := (HOW.out.lt _ e.symm).1; omega))
                  have ow := hbk.box.c5
                  have fw := hbk.free 5
                  clear hbk hown' hgrow hat HX HOW HBX d0 d1 d2 d3 d4 d5
                  go_wp2
                  exact ⟨⟨_, _, _, (kk, 0), HE, fun _ => ⟨hz1, hz2⟩⟩, by have h9 := HE.out.st.lt; rw [HE.out.st.left, HL.out]; simp only [if_true]; simp only at h9; omega⟩
            · have htk : tokR L 2 k2 = .no k2 4 := by unfold tokR; rw [hx]; exact if_neg hc2
              have halt : ((tokR L 2 k2).nx fun _ k3 => (elemsG L z 0 [] k3).nx fun l k4 => setsG L z (S ++ [(cc, l)]) k4).nx (F z) = R := halt
              rw [htk] at halt
              have HRR := Lib.hid (show R = .no k2 4 from halt.symm)
              have hkn : ¬ kd = 2 := by omega
              have FL4 := FL 4 4 rfl (k2, 0)
              rw [show nF 4 (k2, 0) = (k2, 4) from rfl] at FL4
              clear halt WI NB FL IS h46 z1 z2 htk hc2 hx hkd hk2 hw hk1l
              go_wp2_with fail
              with_reducible refine IS1.mono ?_
              rintro r w3 ⟨rfl, b3⟩
              obtain ⟨d0, d1, d2, d3, d4, d5⟩ := (HA.out.box.next b3).box
              go_wp2_with fail
              with_reducible refine (WI1 _ (HA.out.st.next b3)).mono ?_
              rintro r w5 ⟨rfl, h5, kb5⟩
              have HKo := Lib.hid ((Kb.of (r := sb) b3).trans kb5)
              have hso := h5.size
              have hgo := h5.toks.1
              clear d0 d1 d2 d3 d4 d5 b3 kb5 IS1 WI1 c0 c1 c2
              go_wp2_with fail
              with_reducible refine (NB1 _ (h5.next (new_below _ _))).mono ?_
              rintro r w6 ⟨c, rfl, hc, h6, kb6⟩
              have hblk : w6.heap[w5.heap.size]? = some (.cells #[.int .i64 0, .slice none 0 0] 65 (0, 0)) := (kb6.block _ (by simp) (by omega)).trans (heap_alloc_new _ _)
              have y0 : w6.cell? ⟨w5.heap.size, 0, none⟩ = some (.int .i64 0) := by unfold World.cell?; simp only [hblk]; rfl
              have g0 : w6.frozen? ⟨w5.heap.size, 0, none⟩ = false := frozen_of_row w6 _ _ _ _ hblk
              have HEl := Lib.hid (REl.begin (c := c) hso hgo kb6 h6)
              obtain ⟨W6, hW6⟩ : ∃ W6, W6 = w6.setCell ⟨w5.heap.size, 0, none⟩ (.int .i64 c) := ⟨_, rfl⟩
              have hE6 : REl sb g C L w5 c (.slice none 0 0) [] (k2, 0) W6 := by rw [hW6]; exact HEl.out
              have HW6 := Lib.hid hW6
              clear hW6 HEl h6 kb6 h5 hblk NB1 hc
              go_wp2
              rw [← HW6.out]
              clear HW6
              obtain ⟨s0, s1, g1, g2, hsl⟩ := hE6.cells
              obtain ⟨t0, t1, t2, g3, g4⟩ := hE6.st.cells
              have hss := hE6.st.size
              simp only at t1 t2
              obtain ⟨v0, _, _, _, _⟩ := hE6.st.toks.get HX0.out
              rw [HKD.out] at v0
              have i1 : (0 : Int) ≤ (k2 : Int) := by omega
              have i2 : (k2 : Int) < (L.length : Int) := by omega
              have hgl := hE6.st.toks.1
              go_quiet (fail)
              generalize hW7 : W6.drewN _ = W7
              have hE7 : REl sb g C L w5 c (.slice none 0 0) [] (k2, 0) W7 := by rw [← hW7]; exact hE6.drewN _
              clear hW7 s0 s1 g1 g2 hsl t0 t1 t2 g3 g4 hss hE6 v0
              go_wp2_with fail
              with_reducible refine (FL4 _ hE7.st).mono ?_
              rintro r w8 ⟨rfl, h8, kb8⟩
              have hE9 := hE7.kb' hso kb8 h8
              clear hE7 kb8 h8 FL4
              obtain ⟨t0, t1, t2, g3, g4⟩ := hE9.st.cells
              have hss := hE9.st.size
              simp only at t1 t2
              go_wp2
              have HFN := Lib.hid (show Alt (fun k1 => (setsG L z (S ++ [(c, [])]) k1).nx (F z)) R (k2, 4) from .inr ⟨(show ((k2, 4) : Nat × Nat).2 ≠ 0 by show (4 : Nat) ≠ 0; omega), HRR.out⟩)
              have HLE := Lib.hid (show (S ++ [(c, ([] : List Int))]).length ≤ 4096 ∨ ((S ++ [(c, ([] : List Int))]).length ≤ 4097 ∧ ((k2, 4) : Nat × Nat).2 ≠ 0) from .inr ⟨by simp; omega, (show ((k2, 4) : Nat × Nat).2 ≠ 0 by show (4 : Nat) ≠ 0; omega)⟩)
              go_loopw [7, 8] (fun last _ wi => last = .int .i64 (-1) ∧ Hid (REl sb g C L w5 c (.slice none 0 0) [] (k2, 4) wi)) (fun _ _ _ => 0)
              case atStart => exact ⟨rfl, hE9⟩
              case round =>
                obtain ⟨rfl, hEl⟩ := hrel
                have HE1 := Lib.hid hEl.out
                clear hEl hE9
                obtain ⟨s0, s1, g1, g2, hsl⟩ := HE1.out.cells
                obtain ⟨t0, t1, t2, g3, g4⟩ := HE1.out.st.cells
                have hss := HE1.out.st.size
                simp only at t1 t2
                go_wp2_with fail
                go_quiet (fail)
                generalize hW9 : wr.drewN _ = W9
                have hE9 : REl sb g C L w5 c (.slice none 0 0) [] (k2, 4) W9 := by rw [← hW9]; exact HE1.out.drewN _
                clear hW9 s0 s1 g1 g2 hsl t0 t1 t2 g3 g4 hss HE1
                obtain ⟨s0, s1, g1, g2, hsl⟩ := hE9.cells
                obtain ⟨hrs, hbx, hown, hrw, hkb⟩ := HA.out.kb' hs0 (HKo.out.trans hE9.kb)
                have HX := Lib.hid (fun g' cap' w8 a b d => HA.out.step (q' := (k2, 4)) (g' := g') (cap' := cap') (w8 := w8) hs0 hg0 HKo.out hE9 HFN.out HLE.out a b d)
                have HOW := Lib.hid (hown.alloc (.cells #[.int .i64 c, .slice none 0 0] 65))
                obtain ⟨d0, d1, d2, d3, d4, d5⟩ := hbx.box
                have hblt := hbx.lt
                have HBX := Lib.hid hbx
                clear hrs hbx hown hrw hkb
                go_wp2_with (at_builtin; refine wpList_append_lies _ rfl _ _ 34 rfl (w.heap.size + 2) 65 i0 (.agg #[.int .i64 0, .slice none 0 0]) 2 32 Tryd.underlying34 hi0 hz01 hz02 hz03 rfl (by decide) _ _ _ rfl HOW.out ⟨W9.heap.size, 0, none⟩ 1 1 [.int .i64 c, .slice none 0 0] rfl rfl (World.news_of_block (heap_alloc_new _ _)) (set_oneP _ _ _ _) (by omega) (by unfold maxLen; omega) (by omega) (by simp; omega) _ rfl ?_)
                intro g' cap' w8 hown' hgrow hat hlt8
                have HE := Lib.hid (HX.out _ _ _ hown' hgrow (by rw [World.size_alloc]; exact hat))
                have hbk := (HBX.out.next (new_below _ (.cells #[.int .i64 c, .slice none 0 0] 65))).keep (hgrow.block (w.heap.size + 1) (by simp; omega) (fun e => by have := (HOW.out.lt _ e.symm).1; omega))
                have ow := hbk.box.c5
                have fw := hbk.free 5
                clear hbk hown' hgrow hat HX HOW HBX d0 d1 d2 d3 d4 d5
                go_wp2
                exact ⟨⟨_, _, _, (k2, 4), HE, fun q0 => absurd q0 (show ((k2, 4) : Nat × Nat).2 ≠ 0 by show (4 : Nat) ≠ 0; omega)⟩, by rw [HE.out.st.left, HL.out, if_neg (show ((k2, 4) : Nat × Nat).2 ≠ 0 by show (4 : Nat) ≠ 0; omega)]; simp; omega⟩
          · have z1 : numR L 0 2147483648 22 (k + 1) = .no j er := z1
            rw [z1] at halt
            rw [z2] at NB1
            have her := numR_err z1
            have her2 : ¬ (er : Int) = 0 := by omega
            have her3 : ((er : Int) == 0) = false := by simp; omega
            have HRR := Lib.hid (show R = .no j er from halt.symm)
            clear halt WI NB FL IS h46 z1 z2 hw hk1l
            go_wp2_with fail
            with_reducible refine IS1.mono ?_
            rintro r w3 ⟨rfl, b3⟩
            obtain ⟨d0, d1, d2, d3, d4, d5⟩ := (HA.out.box.next b3).box
            go_wp2_with fail
            with_reducible refine (WI1 _ (HA.out.st.next b3)).mono ?_
            rintro r w5 ⟨rfl, h5, kb5⟩
            have HKo := Lib.hid ((Kb.of (r := sb) b3).trans kb5)
            have hso := h5.size
            have hgo := h5.toks.1
            clear d0 d1 d2 d3 d4 d5 b3 kb5 IS1 WI1 c0 c1 c2
            go_wp2_with fail
            with_reducible refine (NB1 _ (h5.next (new_below _ _))).mono ?_
            rintro r w6 ⟨c, rfl, hc, h6, kb6⟩
            have hblk : w6.heap[w5.heap.size]? = some (.cells #[.int .i64 0, .slice none 0 0] 65 (0, 0)) := (kb6.block _ (by simp) (by omega)).trans (heap_alloc_new _ _)
            have y0 : w6.cell? ⟨w5.heap.size, 0, none⟩ = some (.int .i64 0) := by unfold World.cell?; simp only [hblk]; rfl
            have g0 : w6.frozen? ⟨w5.heap.size, 0, none⟩ = false := frozen_of_row w6 _ _ _ _ hblk
            have HEl := Lib.hid (REl.begin (c := c) hso hgo kb6 h6)
            obtain ⟨W6, hW6⟩ : ∃ W6, W6 = w6.setCell ⟨w5.heap.size, 0, none⟩ (.int .i64 c) := ⟨_, rfl⟩
            have hE6 : REl sb g C L w5 c (.slice none 0 0) [] (j, er) W6 := by rw [hW6]; exact HEl.out
            have HW6 := Lib.hid hW6
            clear hW6 HEl h6 kb6 h5 hblk NB1 hc
            go_wp2
            rw [← HW6.out]
            clear HW6
            obtain ⟨s0, s1, g1, g2, hsl⟩ := hE6.cells
            obtain ⟨t0, t1, t2, g3, g4⟩ := hE6.st.cells
            have hss := hE6.st.size
            simp only at t1 t2
            go_quiet (fail)
            generalize hW7 : W6.drewN _ = W7
            have hE9 : REl sb g C L w5 c (.slice none 0 0) [] (j, er) W7 := by rw [← hW7]; exact hE6.drewN _
            clear hW7 s0 s1 g1 g2 hsl t0 t1 t2 g3 g4 hss hE6
            obtain ⟨t0, t1, t2, g3, g4⟩ := hE9.st.cells
            have hss := hE9.st.size
            simp only at t1 t2
            go_wp2
            have HFN := Lib.hid (show Alt (fun k1 => (setsG L z (S ++ [(c, [])]) k1).nx (F z)) R (j, er) from .inr ⟨her, HRR.out⟩)
            have HLE := Lib.hid (show (S ++ [(c, ([] : List Int))]).length ≤ 4096 ∨ ((S ++ [(c, ([] : List Int))]).length ≤ 4097 ∧ ((j, er) : Nat × Nat).2 ≠ 0) from .inr ⟨by simp; omega, her⟩)
            go_loopw [7, 8] (fun last _ wi => last = .int .i64 (-1) ∧ Hid (REl sb g C L w5 c (.slice none 0 0) [] (j, er) wi)) (fun _ _ _ => 0)
            case atStart => exact ⟨rfl, hE9⟩
            case round =>
              obtain ⟨rfl, hEl⟩ := hrel
              have HE1 := Lib.hid hEl.out
              clear hEl hE9
              obtain ⟨s0, s1, g1, g2, hsl⟩ := HE1.out.cells
              obtain ⟨t0, t1, t2, g3, g4⟩ := HE1.out.st.cells
              have hss := HE1.out.st.size
              simp only at t1 t2
              go_wp2_with fail
              go_quiet (fail)
              generalize hW9 : wr.drewN _ = W9
              have hE9 : REl sb g C L w5 c (.slice none 0 0) [] (j, er) W9 := by rw [← hW9]; exact HE1.out.drewN _
              clear hW9 s0 s1 g1 g2 hsl t0 t1 t2 g3 g4 hss HE1
              obtain ⟨s0, s1, g1, g2, hsl⟩ := hE9.cells
              obtain ⟨hrs, hbx, hown, hrw, hkb⟩ := HA.out.kb' hs0 (HKo.out.trans hE9.kb)
              have HX := Lib.hid (fun g' cap' w8 a b d => HA.out.step (q' := (j, er)) (g' := g') (cap' := cap') (w8 := w8) hs0 hg0 HKo.out hE9 HFN.out HLE.out a b d)
              have HOW := Lib.hid (hown.alloc (.cells #[.int .i64 c, .slice none 0 0] 65))
              obtain ⟨d0, d1, d2, d3, d4, d5⟩ := hbx.box
              have hblt := hbx.lt
              have HBX := Lib.hid hbx
              clear hrs hbx hown hrw hkb
              go_wp2_with (at_builtin; refine wpList_append_lies _ rfl _ _ 34 rfl (w.heap.size + 2) 65 i0 (.agg #[.int .i64 0, .slice none 0 0]) 2 32 Tryd.underlying34 hi0 hz01 hz02 hz03 rfl (by decide) _ _ _ rfl HOW.out ⟨W9.heap.size, 0, none⟩ 1 1 [.int .i64 c, .slice none 0 0] rfl rfl (World.news_of_block (heap_alloc_new _ _)) (set_oneP _ _ _ _) (by omega) (by unfold maxLen; omega) (by omega) (by simp; omega) _ rfl ?_)
              intro g' cap' w8 hown' hgrow hat hlt8
              have HE := Lib.hid (HX.out _ _ _ hown' hgrow (by rw [World.size_alloc]; exact hat))
              have hbk := (HBX.out.next (new_below _ (.cells #[.int .i64 c, .slice none 0 0] 65))).keep (hgrow.block (w.heap.size + 1) (by simp; omega) (fun e => by have := (HOW.out.lt _ e.symm).1; omega))
              have ow := hbk.box.c5
              have fw := hbk.free 5
              clear hbk hown' hgrow hat HX HOW HBX d0 d1 d2 d3 d4 d5
              go_wp2
              exact ⟨⟨_, _, _, (j, er), HE, fun q0 => absurd q0 her⟩, by rw [HE.out.st.left, HL.out, if_neg her]; simp; omega⟩
          · exact absurd rfl zz
    · have he : ¬ (e : Int) = 0 := by omega
      have HRR := Lib.hid (show R = .no k e by
        rcases HA.out.alt with ⟨h, _⟩ | ⟨_, h⟩
        · exact absurd h h0
        · exact h)
      obtain ⟨d0, d1, d2, d3, d4, d5⟩ := HA.out.box.box
      obtain ⟨e0, e1, e2, e3, e4, e5⟩ := HA.out.res.box
      have f := HA.out.res.free
      have f0 := f 0
      have f1 := f 1
      have f2 := f 2
      have f3 := f 3
      have f4 := f 4
      have f5 := f 5
      have hz := HA.out.res.lt
      clear f WI NB FL IS
      go_wp2
      refine bodyPost_ret (v := inV ⟨3, 0, [], [], z, S⟩ (.slice none 0 0) (.slice none 0 0) (.slice A S.length cp)) (by simp [results, Tryd.results15, go_sem, inV, e0, e1, e2, e3, e4, e5]) rfl ?_
      exact ⟨_, (k, e), _, _, _, _, _, _, _, _, _, _, _, _, rfl, rfl, HA.out.st.set6 (by omega) (by omega), HA.out.kb.set6 (Nat.le_refl _), .inr ⟨h0, HRR.out⟩⟩
end Go.Proofs.YtbadingdklenhaaDoor
