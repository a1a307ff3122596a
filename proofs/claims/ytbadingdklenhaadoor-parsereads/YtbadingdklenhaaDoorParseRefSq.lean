/-
  What the document's square does with tokens.
-/
import Derived.Test.YtbadingdklenhaaDoorParseRefSqKit
namespace Go.Proofs.YtbadingdklenhaaDoor
set_option maxRecDepth 100000
open Go.RowKit

theorem ins_rowsL {w : World} {B M : Nat} {kind : Int} {v : Value} {R : List (List Int)} {us : List Value} {t : TypeId} (h : w.ownsRow B t 1 v R.length us) (hM : M ≤ B) (hu : us.length = R.length) (hr : ∀ (i : Nat) q v, R[i]? = some q → us[i]? = some v → Ints (fun b => M ≤ b) w v q) :
    Ins (fun b => M ≤ b) (fun b => M ≤ b) w (inV ⟨kind, 0, [], R, 0, []⟩ (.slice none 0 0) v (.slice none 0 0)) ⟨kind, 0, [], R, 0, []⟩ := by
  have hl := fun q hq => (h.lt q hq).1
  exact ⟨⟨.slice none 0 0, v, .slice none 0 0, us, [], rfl, Lies.nil _ _ _, ⟨hu, Lies.imp (lies_of_own h) (fun q hq => Nat.le_trans hM (hl q hq)), hr⟩, ⟨rfl, Lies.nil _ _ _, fun i r u a => by simp at a⟩⟩⟩
set_option maxHeartbeats 8000000 in
theorem rsquare_any (sb g C : Nat) (L : List Tk) (hE : EndL L) (k0 : Nat) (kind : Int) (w : World) (h : St sb g C L (k0, 0) w) :
    Calls Tryd.prog 14 #[.pointer (some ⟨sb, 0, none⟩), .int .i64 kind] w (RIs sb g C L (squareR L kind k0) w) := by
  have NB0 := fun q W hW => rnumber_any sb g C L hE q 1 64 W hW
  have NB := fun q W hW => rnumber_any sb g C L hE q (-2147483648) 2147483648 W hW
  have WI := fun q W hW => rword_any sb g C L hE q ⟨#[114, 111, 119]⟩ rowW rfl W hW
  have FL := fun q W hW => rfail_any sb g C L q 4 4 rfl W hW
  obtain ⟨i0, hi0, hz01, hz02, hz03⟩ := info_parts infoRw
  obtain ⟨j0, hj0, hy01, hy02, hy03⟩ := info_parts infoN
  have hs0 := h.size
  have hg0 := h.toks.1
  have HI0 := Lib.hid (And.intro ((iblk_new w (.int .i64 0) (.int .i64 0) (.slice none 0 0) (.slice none 0 0) (.int .i64 0) (.slice none 0 0) 36).next (new_below _ (.cells #[.int .i64 kind, .int .i64 0, .slice none 0 0, .slice none 0 0, .int .i64 0, .slice none 0 0] 36)))
    (by have := iblk_new (w.alloc (.cells #[.int .i64 0, .int .i64 0, .slice none 0 0, .slice none 0 0, .int .i64 0, .slice none 0 0] 36)) (.int .i64 kind) (.int .i64 0) (.slice none 0 0) (.slice none 0 0) (.int .i64 0) (.slice none 0 0) 36; rw [World.size_alloc] at this; exact this))
  have HS0 := Lib.hid ((h.next (new_below _ (.cells #[.int .i64 0, .int .i64 0, .slice none 0 0, .slice none 0 0, .int .i64 0, .slice none 0 0] 36))).next (new_below _ (.cells #[.int .i64 kind, .int .i64 0, .slice none 0 0, .slice none 0 0, .int .i64 0, .slice none 0 0] 36)))
  have HK0 := Lib.hid (((Kb.refl sb w).alloc (.cells #[.int .i64 0, .int .i64 0, .slice none 0 0, .slice none 0 0, .int .i64 0, .slice none 0 0] 36)).alloc (.cells #[.int .i64 kind, .int .i64 0, .slice none 0 0, .slice none 0 0, .int .i64 0, .slice none 0 0] 36))
  rcases nN_ok (L := L) (lo := 1) (hi := 64) (q := (k0, 0)) with ⟨_, x, k1, e1, e2⟩ | ⟨_, j, er, e1, e2⟩ | ⟨q0, _⟩
  · obtain ⟨_, _, _, _, hx1, hx2, _⟩ := numR_ok e1
    obtain ⟨N, rfl⟩ : ∃ N : Nat, x = (N : Int) := ⟨x.toNat, by omega⟩
    have hN2 : N ≤ 64 := by omega
    obtain ⟨hb, hhb⟩ : ∃ b, (kind == 2) = b := ⟨_, rfl⟩
    have hdb : decide (kind = 2) = hb := by rw [← hhb]; by_cases q : kind = 2 <;> simp [q]
    have hsq : squareR L kind k0 = (rowsR L N (decide (kind = 2)) N [] k1).nx fun R k2 => .ok ⟨kind, 0, [], R, 0, []⟩ k2 := by
      have e1' : numR L 1 64 22 k0 = .ok (N : Int) k1 := e1
      unfold squareR
      rw [e1']
      simp only [Rd.nx, Int.toNat_natCast]
    rw [hdb] at hsq
    have hF : ∀ l j, (fun (R : List (List Int)) (k2 : Nat) => Rd.ok (⟨kind, 0, [], R, 0, []⟩ : In) k2) l j = .ok ⟨kind, 0, [], l, 0, []⟩ j := fun _ _ => rfl
    obtain ⟨F, hFe⟩ : ∃ F, (fun (R : List (List Int)) (k2 : Nat) => Rd.ok (⟨kind, 0, [], R, 0, []⟩ : In) k2) = F := ⟨_, rfl⟩
    rw [hFe] at hsq hF
    obtain ⟨R, hR⟩ : ∃ R, squareR L kind k0 = R := ⟨_, rfl⟩
    rw [hR] at hsq ⊢
    have HF := Lib.hid hF
    have ha0 : Alt (fun k => (rowsR L N hb (N - ([] : List (List Int)).length) [] k).nx F) R (k1, 0) := .inl ⟨rfl, hsq.symm⟩
    have HA0 := Lib.hid ha0
    have NB1 := fun W hW => NB0 (k0, 0) W hW
    rw [e2] at NB1
    have He1 := Lib.hid e1
    clear e1 e2 hdb hsq hF hFe hR ha0 h hx1 hx2 NB0
    go_enter Tryd.func14, Tryd.ntmps14
    go_wp2_with fail
    with_reducible refine (NB1 _ HS0.out).mono ?_
    rintro r w2 ⟨n, rfl, hn, h2, kb2⟩
    obtain rfl : n = (N : Int) := hn _ _ (by first | rfl | trivial) He1.out
    have hRS : RSq sb g C L N hb F R kind w (.slice none 0 0) [] [] (k1, 0) w2 :=
      ⟨HI0.out.1.kb kb2 (by omega), HI0.out.2.kb kb2 (by omega), World.ownsRow_nil _ _ _ _, rfl, fun i r v a => by simp at a, h2, HK0.out.trans kb2, HA0.out, by simp⟩
    have HRS := Lib.hid hRS
    clear hRS h2 kb2 hn HI0 HS0 HK0 HA0 NB1 He1
    go_wp2
    go_loopw [7, 8, 9, 10, 11] (fun i _ _ _ _ wr => ∃ (va : Value) (us : List Value) (acc : List (List Int)) (q : Nat × Nat), i = .int .i64 (acc.length : Nat) ∧ Hid (RSq sb g C L N hb F R kind w va us acc q wr)) (fun i _ _ _ _ _ => N - (intOf i).toNat)
    case atStart => exact ⟨_, [], [], _, rfl, HRS⟩
    case round =>
      obtain ⟨va, us, acc, q, rfl, hA⟩ := hrel
      have HA := Lib.hid hA.out
      clear hA HRS
      obtain ⟨A, cp, rfl⟩ := own_sliceP HA.out.own
      obtain ⟨k, e⟩ := q
      obtain ⟨c0, c1, c2, _, _⟩ := HA.out.st.cells
      have hs1 := HA.out.st.size
      simp only at c1 c2
      have hklt : k < L.length := HA.out.st.lt
      have hlen := HA.out.len
      by_cases hgo : e = 0 ∧ acc.length < N
      · obtain ⟨rfl, hlt⟩ := hgo
        have i1 : (acc.length : Int) < (N : Int) := by omega
        have WI1 := WI (k, 0) wr HA.out.st
        obtain ⟨m, hm⟩ : ∃ m, N - acc.length = m + 1 := ⟨N - acc.length - 1, by omega⟩
        have halt : (rowsR L N hb (N - acc.length) acc k).nx F = R := by
          rcases HA.out.alt with ⟨_, h⟩ | ⟨h, _⟩
          · exact h
          · exact absurd rfl h
        rw [hm, rowsR_succ, nx_assoc, show m = N - (acc.length + 1) by omega] at halt
        have hal0 : Alt (fun k => (wordR L rowW k).nx fun _ k1 => (cellsR L acc.length hb N [] k1).nx fun r k1 => (rowsR L N hb (N - (acc.length + 1)) (acc ++ [r]) k1).nx F) R (k, 0) := by
          refine .inl ⟨rfl, ?_⟩
          rw [← halt]
          show _ = ((wordR L rowW k).nx _).nx _
          rw [nx_assoc]
        have HAL := Lib.hid hal0.word
        clear halt hal0
        go_wp2_with fail
        with_reducible refine WI1.mono ?_
        rintro r w3 ⟨rfl, h3, kb3⟩
        generalize nW L rowW (k, 0) = q3 at *
        have hRW : RRw sb g C L N hb F R acc w3 (.slice none 0 0) [] q3 w3 := ⟨World.ownsRow_nil _ _ _ _, h3, Kb.refl _ _, HAL.out, by simp⟩
        have HRW := Lib.hid hRW
        have HKB := Lib.hid kb3
        have hs3 : sb < w3.heap.size := h3.size
        have hg3 : g < w3.heap.size := h3.toks.1
        clear hRW h3 kb3 HAL WI1 c0 c1 c2
        go_wp2
        obtain ⟨wo, rfl⟩ : ∃ q, q = wr := ⟨_, rfl⟩
        go_loopw [8, 9, 10, 11] (fun vr j _ _ wi => ∃ (row : List Int) (q : Nat × Nat), j = .int .i64 (row.length : Nat) ∧ Hid (RRw sb g C L N hb F R acc w3 vr row q wi)) (fun _ j _ _ _ => N - (intOf j).toNat)
        case atStart => exact ⟨[], _, rfl, HRW⟩
        case round =>
          obtain ⟨row, q, rfl, hB⟩ := hrel
          have HB := Lib.hid hB.out
          clear hB HRW
          obtain ⟨A', cp', rfl⟩ := own_sliceP HB.out.own
          obtain ⟨k, e⟩ := q
          obtain ⟨c0, c1, c2, f1, f2⟩ := HB.out.st.cells
          have hs4 := HB.out.st.size
          simp only at c1 c2
          have hrl0 := HB.out.len
          by_cases hgo : e = 0 ∧ row.length < N
          · obtain ⟨rfl, hrl⟩ := hgo
            have i2 : (row.length : Int) < (N : Int) := by omega
            have halt : (cellsR L acc.length hb (N - row.length) row k).nx (fun r k1 => (rowsR L N hb (N - (acc.length + 1)) (acc ++ [r]) k1).nx F) = R := by
              rcases HB.out.alt with ⟨_, h⟩ | ⟨h, _⟩
              · exact h
              · exact absurd rfl h
            obtain ⟨m, hm⟩ : ∃ m, N - row.length = m + 1 := ⟨N - row.length - 1, by omega⟩
            rw [hm, cellsR_succ, nx_assoc, show m = N - (row.length + 1) by omega] at halt
            have NB2 := fun W hW => NB (k, 0) W hW
            rcases nN_ok (L := L) (lo := -2147483648) (hi := 2147483648) (q := (k, 0)) with ⟨_, m', k', z1, z2⟩ | ⟨_, j', er', z1, z2⟩ | ⟨z0, _⟩
            · have z1' : numR L (-2147483648) 2147483648 22 k = .ok m' k' := z1
              rw [z1'] at halt
              rw [z2] at NB2
              have HZ := Lib.hid z1'
              by_cases hbad : hb = true ∧ row.length = acc.length ∧ m' ≠ 0
              · have hRR : Rd.no k 4 = R := by
                  rw [← halt]
                  show _ = Rd.nx (if hb = true ∧ row.length = acc.length ∧ m' ≠ 0 then _ else _) _
                  rw [if_pos hbad]
                  rfl
                have HRR := Lib.hid hRR
                clear halt z1 z1' z2 hm
                go_wp2_with fail
                with_reducible refine (NB2 _ HB.out.st).mono ?_
                rintro r w4 ⟨c, rfl, hc, h4, kb4⟩
                obtain rfl : c = m' := hc _ _ (by first | rfl | trivial) HZ.out
                obtain ⟨d0, d1, d2, g1, g2⟩ := h4.cells
                have hs5 := h4.size
                simp only at d1 d2
                have hk2 : (kind == 2) = true := hhb.trans hbad.1
                have hik : ((acc.length : Int) == (row.length : Int)) = true := by simp; omega
                have hcz : (c == 0) = false := by simpa using hbad.2.2
                have hcz2 : ¬ c = 0 := hbad.2.2
                have h5 := h4.goes (k := k) HB.out.st.lt
                have kb5 := kb4.store (a := ⟨sb, 1, none⟩) rfl (.int .i64 (k : Nat))
                have FL5 := FL (k, 0) _ h5
                rw [show nF 4 (k, 0) = (k, 4) from rfl] at FL5
                have hal9 : Alt (fun k => (cellsR L acc.length hb (N - (row.length + 1)) (row ++ [c]) k).nx fun r k1 => (rowsR L N hb (N - (acc.length + 1)) (acc ++ [r]) k1).nx F) R (k, 4) := .inr ⟨by show (4 : Nat) ≠ 0; omega, HRR.out.symm⟩
                have HAL9 := Lib.hid hal9
                have HK5 := Lib.hid kb5
                have hik2 : row.length = acc.length := hbad.2.1
                have HIK := Lib.hid hik2
                clear hbad hik2 hal9 h5 kb5 h4 hc hhb
                go_wp2_with fail
                with_reducible refine FL5.mono ?_
                rintro r w5 ⟨rfl, h6, kb6⟩
                have HOW := Lib.hid ((((HK5.out.trans kb6).own hs3 HB.out.own)).alloc (.cells #[.int .i64 c] 2))
                have HOW2 := Lib.hid (show World.ownsRow _ _ _ _ _ acc.length _ from HIK.out ▸ HOW.out)
                have hsz9 := (HB.out.kb.trans (HK5.out.trans kb6)).size
                have HX := Lib.hid (fun g' cap' w8 a b => HB.out.step (q' := (k, 4)) (c := c) (g' := g') (cap' := cap') (w8 := w8) hs3 hg3 (HK5.out.trans kb6) h6 hrl HAL9.out a b)
                clear c0 c1 c2 f1 f2 d0 d1 d2 g1 g2 FL5 HK5 kb4
                go_wp2_with (at_builtin; refine wpList_append_lies _ rfl _ _ 88 rfl w3.heap.size 2 j0 (.int .i64 0) 1 8 Tryd.underlying88 hj0 hy01 hy02 hy03 rfl (by decide) _ _ _ rfl HOW2.out ⟨w5.heap.size, 0, none⟩ 1 1 [.int .i64 c] rfl rfl (World.news_of_block (heap_alloc_new _ _)) (one_int _) (by omega) (by unfold maxLen; omega) (by omega) (by simp; omega) _ rfl ?_)
                intro g' cap' w8 hown' hgrow hat hlt8
                have HE := Lib.hid (HX.out _ _ _ (by rw [HIK.out]; exact hown') (by rw [HIK.out]; exact hgrow))
                rw [HIK.out] at HE
                clear hown' hgrow hat HX HOW HOW2
                go_wp2
                exact ⟨⟨row ++ [c], (k, 4), by simp [HIK.out], HE⟩, by have := HIK.out; simp [intOf]; omega⟩
              · have hRR : (cellsR L acc.length hb (N - (row.length + 1)) (row ++ [m']) k').nx (fun r k1 => (rowsR L N hb (N - (acc.length + 1)) (acc ++ [r]) k1).nx F) = R := by
                  rw [← halt]
                  show _ = Rd.nx (if hb = true ∧ row.length = acc.length ∧ m' ≠ 0 then _ else _) _
                  rw [if_neg hbad]
                have HRR := Lib.hid hRR
                clear halt z1 z1' z2 hm hRR
                have hcs : (kind == 2) = false ∨ ((kind == 2) = true ∧ ((acc.length : Int) == (row.length : Int)) = false) ∨ ((kind == 2) = true ∧ ((acc.length : Int) == (row.length : Int)) = true ∧ m' = 0) := by
                  cases hb with
                  | false => exact .inl hhb
                  | true =>
                    by_cases hq : row.length = acc.length
                    · refine .inr (.inr ⟨hhb, by simp; omega, Decidable.byContradiction fun h => hbad ⟨rfl, hq, h⟩⟩)
                    · exact .inr (.inl ⟨hhb, by simp; omega⟩)
                clear hbad hhb
                rcases hcs with v1 | ⟨v1, v2⟩ | ⟨v1, v2, v3⟩
                · go_wp2_with fail
                  with_reducible refine (NB2 _ HB.out.st).mono ?_
                  rintro r w4 ⟨c, rfl, hc, h4, kb4⟩
                  obtain rfl : c = m' := hc _ _ (by first | rfl | trivial) HZ.out
                  obtain ⟨d0, d1, d2, g1, g2⟩ := h4.cells
                  have hs5 := h4.size
                  simp only at d1 d2
                  have HAL9 := Lib.hid (show Alt (fun k => (cellsR L acc.length hb (N - (row.length + 1)) (row ++ [c]) k).nx fun r k1 => (rowsR L N hb (N - (acc.length + 1)) (acc ++ [r]) k1).nx F) R (k', 0) from .inl ⟨rfl, HRR.out⟩)
                  have HOW := Lib.hid ((((kb4).own hs3 HB.out.own)).alloc (.cells #[.int .i64 c] 2))
                  have hsz9 := (HB.out.kb.trans (kb4)).size
                  have HX := Lib.hid (fun g' cap' w8 a b => HB.out.step (q' := (k', 0)) (c := c) (g' := g') (cap' := cap') (w8 := w8) hs3 hg3 (kb4) h4 hrl HAL9.out a b)
                  clear c0 c1 c2 f1 f2 hc
                  go_wp2_with (at_builtin; refine wpList_append_lies _ rfl _ _ 88 rfl w3.heap.size 2 j0 (.int .i64 0) 1 8 Tryd.underlying88 hj0 hy01 hy02 hy03 rfl (by decide) _ _ _ rfl HOW.out ⟨w4.heap.size, 0, none⟩ 1 1 [.int .i64 c] rfl rfl (World.news_of_block (heap_alloc_new _ _)) (one_int _) (by omega) (by unfold maxLen; omega) (by omega) (by simp; omega) _ rfl ?_)
                  intro g' cap' w8 hown' hgrow hat hlt8
                  have HE := Lib.hid (HX.out _ _ _ hown' hgrow)
                  clear hown' hgrow hat HX HOW
                  go_wp2
                  exact ⟨⟨row ++ [c], (k', 0), by simp, HE⟩, by simp [intOf]; omega⟩
                · go_wp2_with fail
                  with_reducible refine (NB2 _ HB.out.st).mono ?_
                  rintro r w4 ⟨c, rfl, hc, h4, kb4⟩
                  obtain rfl : c = m' := hc _ _ (by first | rfl | trivial) HZ.out
                  obtain ⟨d0, d1, d2, g1, g2⟩ := h4.cells
                  have hs5 := h4.size
                  simp only at d1 d2
                  have HAL9 := Lib.hid (show Alt (fun k => (cellsR L acc.length hb (N - (row.length + 1)) (row ++ [c]) k).nx fun r k1 => (rowsR L N hb (N - (acc.length + 1)) (acc ++ [r]) k1).nx F) R (k', 0) from .inl ⟨rfl, HRR.out⟩)
                  have HOW := Lib.hid ((((kb4).own hs3 HB.out.own)).alloc (.cells #[.int .i64 c] 2))
                  have hsz9 := (HB.out.kb.trans (kb4)).size
                  have HX := Lib.hid (fun g' cap' w8 a b => HB.out.step (q' := (k', 0)) (c := c) (g' := g') (cap' := cap') (w8 := w8) hs3 hg3 (kb4) h4 hrl HAL9.out a b)
                  clear c0 c1 c2 f1 f2 hc
                  go_wp2_with (at_builtin; refine wpList_append_lies _ rfl _ _ 88 rfl w3.heap.size 2 j0 (.int .i64 0) 1 8 Tryd.underlying88 hj0 hy01 hy02 hy03 rfl (by decide) _ _ _ rfl HOW.out ⟨w4.heap.size, 0, none⟩ 1 1 [.int .i64 c] rfl rfl (World.news_of_block (heap_alloc_new _ _)) (one_int _) (by omega) (by unfold maxLen; omega) (by omega) (by simp; omega) _ rfl ?_)
                  intro g' cap' w8 hown' hgrow hat hlt8
                  have HE := Lib.hid (HX.out _ _ _ hown' hgrow)
                  clear hown' hgrow hat HX HOW
                  go_wp2
                  exact ⟨⟨row ++ [c], (k', 0), by simp, HE⟩, by simp [intOf]; omega⟩
                · have HIK := Lib.hid (show row.length = acc.length by simp at v2; omega)
                  subst v3
                  go_wp2_with fail
                  with_reducible refine (NB2 _ HB.out.st).mono ?_
                  rintro r w4 ⟨c, rfl, hc, h4, kb4⟩
                  obtain rfl : c = 0 := hc _ _ (by first | rfl | trivial) HZ.out
                  obtain ⟨d0, d1, d2, g1, g2⟩ := h4.cells
                  have hs5 := h4.size
                  simp only at d1 d2
                  have HAL9 := Lib.hid (show Alt (fun k => (cellsR L acc.length hb (N - (row.length + 1)) (row ++ [0]) k).nx fun r k1 => (rowsR L N hb (N - (acc.length + 1)) (acc ++ [r]) k1).nx F) R (k', 0) from .inl ⟨rfl, HRR.out⟩)
                  have HOW := Lib.hid ((((kb4).own hs3 HB.out.own)).alloc (.cells #[.int .i64 0] 2))
                  have hsz9 := (HB.out.kb.trans (kb4)).size
                  have HX := Lib.hid (fun g' cap' w8 a b => HB.out.step (q' := (k', 0)) (c := 0) (g' := g') (cap' := cap') (w8 := w8) hs3 hg3 (kb4) h4 hrl HAL9.out a b)
                  clear c0 c1 c2 f1 f2 hc
                  go_wp2_with (at_builtin; refine wpList_append_lies _ rfl _ _ 88 rfl w3.heap.size 2 j0 (.int .i64 0) 1 8 Tryd.underlying88 hj0 hy01 hy02 hy03 rfl (by decide) _ _ _ rfl HOW.out ⟨w4.heap.size, 0, none⟩ 1 1 [.int .i64 0] rfl rfl (World.news_of_block (heap_alloc_new _ _)) (one_int _) (by omega) (by unfold maxLen; omega) (by omega) (by simp; omega) _ rfl ?_)
                  intro g' cap' w8 hown' hgrow hat hlt8
                  have HE := Lib.hid (HX.out _ _ _ hown' hgrow)
                  clear hown' hgrow hat HX HOW
                  go_wp2
                  exact ⟨⟨row ++ [0], (k', 0), by simp, HE⟩, by have := HIK.out; simp [intOf]; omega⟩
            · have z1' : numR L (-2147483648) 2147483648 22 k = .no j' er' := z1
              rw [z1'] at halt
              rw [z2] at NB2
              have her := numR_err z1'
              have HRR := Lib.hid (show R = .no j' er' from halt.symm)
              clear halt z1 z1' z2 hm
              go_wp2_with fail
              with_reducible refine (NB2 _ HB.out.st).mono ?_
              rintro r w4 ⟨c, rfl, hc, h4, kb4⟩
              obtain ⟨d0, d1, d2, g1, g2⟩ := h4.cells
              have hs5 := h4.size
              simp only at d1 d2
              have her2 : ¬ (er' : Int) = 0 := by omega
              have HAL9 := Lib.hid (show Alt (fun k => (cellsR L acc.length hb (N - (row.length + 1)) (row ++ [c]) k).nx fun r k1 => (rowsR L N hb (N - (acc.length + 1)) (acc ++ [r]) k1).nx F) R (j', er') from .inr ⟨her, HRR.out⟩)
              have HOW := Lib.hid ((((kb4).own hs3 HB.out.own)).alloc (.cells #[.int .i64 c] 2))
              have hsz9 := (HB.out.kb.trans (kb4)).size
              have HX := Lib.hid (fun g' cap' w8 a b => HB.out.step (q' := (j', er')) (c := c) (g' := g') (cap' := cap') (w8 := w8) hs3 hg3 (kb4) h4 hrl HAL9.out a b)
              clear c0 c1 c2 f1 f2 hc
              go_wp2_with (at_builtin; refine wpList_append_lies _ rfl _ _ 88 rfl w3.heap.size 2 j0 (.int .i64 0) 1 8 Tryd.underlying88 hj0 hy01 hy02 hy03 rfl (by decide) _ _ _ rfl HOW.out ⟨w4.heap.size, 0, none⟩ 1 1 [.int .i64 c] rfl rfl (World.news_of_block (heap_alloc_new _ _)) (one_int _) (by omega) (by unfold maxLen; omega) (by omega) (by simp; omega) _ rfl ?_)
              intro g' cap' w8 hown' hgrow hat hlt8
              have HE := Lib.hid (HX.out _ _ _ hown' hgrow)
              clear hown' hgrow hat HX HOW
              go_wp2
              exact ⟨⟨row ++ [c], (j', er'), by simp, HE⟩, by simp [intOf]; omega⟩
            · exact absurd rfl z0
          · have hex : (e ≠ 0) ∨ (e = 0 ∧ row.length = N) := by omega
            have hal : Alt (fun k1 => (rowsR L N hb (N - (acc.length + 1)) (acc ++ [row]) k1).nx F) R (k, e) := by
              rcases hex with he | ⟨rfl, he⟩
              · rcases HB.out.alt with ⟨h, _⟩ | h
                · exact absurd h he
                · exact .inr h
              · rcases HB.out.alt with ⟨_, h⟩ | ⟨h, _⟩
                · have h : (cellsR L acc.length hb (N - row.length) row k).nx (fun r k1 => (rowsR L N hb (N - (acc.length + 1)) (acc ++ [r]) k1).nx F) = R := h
                  rw [he, Nat.sub_self] at h
                  exact .inl ⟨rfl, h⟩
                · exact absurd rfl h
            have hte : ((row.length : Int) < (N : Int) ∧ ¬ (e : Int) = 0) ∨ (¬ (row.length : Int) < (N : Int) ∧ ¬ (e : Int) = 0) ∨ (¬ (row.length : Int) < (N : Int) ∧ (e : Int) = 0) := by omega
            obtain ⟨hrs, hbx, hown, hrw, hkb⟩ := HA.out.kb' hs0 (HKB.out.trans HB.out.kb)
            have HX := Lib.hid (fun g' cap' w8 a b d => HA.out.step (q' := (k, e)) (g' := g') (cap' := cap') (w8 := w8) hs0 hg0 HKB.out HB.out hlt hal a b d)
            have HOW := Lib.hid (hown.alloc (.cells #[.slice A' row.length cp'] 88))
            obtain ⟨d0, d1, d2, d3, d4, d5⟩ := hbx.box
            have hblt := hbx.lt
            have HBX := Lib.hid hbx
            clear hex hal hrs hbx hown hrw hkb hgo
            rcases hte with ⟨t1, t2⟩ | ⟨t1, t2⟩ | ⟨t1, t2⟩
            all_goals
              go_wp2_with (at_builtin; refine wpList_append_lies _ rfl _ _ 24 rfl (w.heap.size + 2) 88 i0 (.slice none 0 0) 1 24 Tryd.underlying24 hi0 hz01 hz02 hz03 rfl (by decide) _ _ _ rfl HOW.out ⟨wr.heap.size, 0, none⟩ 1 1 [.slice A' row.length cp'] rfl rfl (World.news_of_block (heap_alloc_new _ _)) (one_headP _ _ _) (by omega) (by unfold maxLen; omega) (by omega) (by simp; omega) _ rfl ?_)
              intro g' cap' w8 hown' hgrow hat hlt8
              have HE := Lib.hid (HX.out _ _ _ hown' hgrow (by rw [World.size_alloc]; exact hat))
              have hbk := (HBX.out.next (new_below _ (.cells #[.slice A' row.length cp'] 88))).keep (hgrow.block (w.heap.size + 1) (by simp; omega) (fun e => by have := (HOW.out.lt _ e.symm).1; omega))
              have ow := hbk.box.c3
              have fw := hbk.free 3
              clear hbk hown' hgrow hat HX HOW HBX d0 d1 d2 d3 d4 d5
              go_wp2
              exact ⟨⟨_, _, acc ++ [row], (k, e), by simp, HE⟩, by simp [intOf]; omega⟩
      · have hfin : (e = 0 ∧ acc.length = N ∧ R = .ok ⟨kind, 0, [], acc, 0, []⟩ k) ∨ (e ≠ 0 ∧ R = .no k e) := by
          rcases HA.out.alt with ⟨h0, h⟩ | ⟨h0, h⟩
          · have h0 : e = 0 := h0
            have hN : acc.length = N := by omega
            refine .inl ⟨h0, hN, ?_⟩
            have h : (rowsR L N hb (N - acc.length) acc k).nx F = R := h
            rw [hN, Nat.sub_self] at h
            rw [← h]
            exact HF.out acc k
          · exact .inr ⟨h0, h⟩
        have hte : ((acc.length : Int) < (N : Int) ∧ ¬ (e : Int) = 0) ∨ (¬ (acc.length : Int) < (N : Int) ∧ ¬ (e : Int) = 0) ∨ (¬ (acc.length : Int) < (N : Int) ∧ (e : Int) = 0) := by omega
        obtain ⟨d0, d1, d2, d3, d4, d5⟩ := HA.out.box.box
        obtain ⟨e0, e1, e2, e3, e4, e5⟩ := HA.out.res.box
        have f := HA.out.res.free
        have f0 := f 0
        have f1 := f 1
        have f2 := f 2
        have f3 := f 3
        have f4 := f 4
        have f5 := f 5
        have hz := HA.out.res.lt
        have HFN := Lib.hid hfin
        clear f hfin hgo NB WI FL
        rcases hte with ⟨t1, t2⟩ | ⟨t1, t2⟩ | ⟨t1, t2⟩
        all_goals
          go_wp2
          refine bodyPost_ret (v := inV ⟨kind, 0, [], acc, 0, []⟩ (.slice none 0 0) (.slice A acc.length cp) (.slice none 0 0)) (by simp [results, Tryd.results14, go_sem, inV, e0, e1, e2, e3, e4, e5]) rfl ?_
          refine ⟨_, (k, e), _, _, _, _, _, _, _, _, _, _, _, _, rfl, rfl, HA.out.st.set6 (by omega) (by omega), HA.out.kb.set6 (Nat.le_refl _), ?_⟩
          rcases HFN.out with ⟨h0, _, hR⟩ | h
          · exact .inl ⟨h0, _, hR, ins_rowsL (own_set6 HA.out.own (by omega)) (by omega) HA.out.ul (fun i r v a b => Lies.imp ((HA.out.rows i r v a b).held (held_set6 (b := w.heap.size) (fun q hq => by have := hq.1; omega))) (fun q hq => by have := hq.1; omega))⟩
          · exact .inr h
  · have hsq : squareR L kind k0 = .no j er := by
      have e1' : numR L 1 64 22 k0 = .no j er := e1
      unfold squareR
      rw [e1']
      rfl
    have her := numR_err e1
    have her2 : ¬ (er : Int) = 0 := by omega
    have NB1 := fun W hW => NB0 (k0, 0) W hW
    rw [e2] at NB1
    rw [hsq]
    clear e1 e2 hsq h NB0 NB WI FL
    go_enter Tryd.func14, Tryd.ntmps14
    go_wp2_with fail
    with_reducible refine (NB1 _ HS0.out).mono ?_
    rintro r w2 ⟨n, rfl, hn, h2, kb2⟩
    have hrs := HI0.out.1.kb kb2 (by omega)
    have hbx := HI0.out.2.kb kb2 (by omega)
    have HK := Lib.hid (HK0.out.trans kb2)
    have HS := Lib.hid h2
    obtain ⟨c0, c1, c2, _, _⟩ := h2.cells
    have hs1 := h2.size
    simp only at c1 c2
    obtain ⟨d0, d1, d2, d3, d4, d5⟩ := hbx.box
    obtain ⟨e0, e1, e2, e3, e4, e5⟩ := hrs.box
    have f := hrs.free
    have f0 := f 0
    have f1 := f 1
    have f2 := f 2
    have f3 := f 3
    have f4 := f 4
    have f5 := f 5
    have hz := hrs.lt
    have hz2 := hbx.lt
    clear f hrs hbx h2 kb2 hn HI0 HS0 HK0 NB1
    go_wp2
    go_loopw [7] (fun i wr => i = .int .i64 0 ∧ wr = w2) (fun _ _ => 0)
    case atStart => exact ⟨rfl, rfl⟩
    case round =>
      obtain ⟨rfl, rfl⟩ := hrel
      by_cases hn0 : (0 : Int) < n
      all_goals
        go_wp2
        refine bodyPost_ret (v := inV ⟨kind, 0, [], [], 0, []⟩ (.slice none 0 0) (.slice none 0 0) (.slice none 0 0)) (by simp [results, Tryd.results14, go_sem, inV, e0, e1, e2, e3, e4, e5]) rfl ?_
        exact ⟨_, (j, er), _, _, _, _, _, _, _, _, _, _, _, _, rfl, rfl, HS.out.set6 (by omega) (by omega), HK.out.set6 (Nat.le_refl _), .inr ⟨her, rfl⟩⟩
  · exact absurd rfl q0
end Go.Proofs.YtbadingdklenhaaDoor
