/-
  What the reader's cover does.
-/
import Derived.Test.YtbadingdklenhaaGreatDoorParseCoverKit
namespace Go.Proofs.YtbadingdklenhaaGreatDoor
set_option maxRecDepth 100000
open Go.RowKit

theorem infoSt : (Tryz.prog.info? 71).map (fun i => (i.zero, i.size, i.bytes)) = some (some (.agg #[.int .i64 0, .slice none 0 0]), 2, 32) := by kernel_rfl
theorem setsG_more {L : List Tk} (h : EndL L) (z : Int) (acc : List (Int × List Int)) {k : Nat} (hk : k < L.length) : setsG L z acc k = (moreR L setW acc.length k).nx fun b k1 => if b = true then
      ((numR L 0 2147483648 22 k1).nx fun c k2 => (tokR L 2 k2).nx fun _ k3 => (elemsG L z 0 [] k3).nx fun l k4 => setsG L z (acc ++ [(c, l)]) k4) else .ok acc k1 := by
  rw [setsG_eq h z acc hk]
  unfold moreR
  split
  · split
    · rfl
    · rfl
  · rfl
theorem set_oneP (a : Int) (A : Option Addr) (n c : Nat) : ∀ v ∈ [Value.int .i64 a, .slice A n c], v.oneCell' = true := by
  intro v hv
  simp at hv
  rcases hv with rfl | rfl <;> rfl
theorem Ints.slice {F : Nat → Prop} {w : World} {v : Value} {l : List Int} (h : Ints F w v l) : ∃ A C, v = .slice A l.length C := by obtain ⟨A, C, h1, _⟩ := h; exact ⟨A, C, h1⟩
def planCv (r ib : Nat) (A : Option Addr) (n cp : Nat) (c z : Int) : Plan := { ks := [0, 0, 0, 0, 0, 2, 2, 2, 2, 0, 2], ds := [19, 20, 21, 22, 23, 24, 25, 26, 27, 28, 0], vs := [.pointer (some ⟨ib, 5, none⟩), .slice A n cp, .int .i64 c, .pointer (some ⟨r, 0, none⟩), .int .i64 z, undef, undef, undef, undef, .pointer (some ⟨ib, 5, none⟩), undef], ss := [0, 0, 0, 0, 0, 0, 0, 0, 0, 0, 0], zs := [#[], #[], #[], #[], #[], #[], #[], #[], #[], #[], #[]], fs := [#[], #[], #[], #[], #[], #[], #[], #[], #[], #[], #[]], ts := [0, 0, 0, 0, 0, 0, 0, 0, 0, 0, 0] }
set_option maxHeartbeats 2000000 in
theorem cover_any (r g C : Nat) (L : List Tk) (hE : EndL L) (hN : L.length ≤ 2000000) (k0 : Nat) (w : World) (h : RdS r g C L k0 w) :
    Calls Tryz.prog 84 #[.pointer (some ⟨r, 0, none⟩)] w (Tells r L w (coverR L k0) (fun I v w' => Ins (fun b => w.heap.size ≤ b) (fun b => w.heap.size ≤ b) w' v I) (RdS r g C L)) := by
  have LM := fun W hW => limited_any r g C L hE k0 0 4096 W hW
  have AM := fun k W hW => amount_any r g C L hE k W hW
  obtain ⟨i0, hi0, hz01, hz02, hz03⟩ := info_parts infoSt
  have hr0 := h.size
  have hg0 := h.toks.1
  have hk : coverR L k0 = (numR L 0 4096 22 k0).nx fun z k1 => (setsG L z [] k1).nx fun S k2 => .ok ⟨3, 0, [], [], z, S⟩ k2 := rfl
  rw [hk]
  have hnk := fun x k' => numR_ok (L := L) (lo := 0) (hi := 4096) (e := 22) (k := k0) (x := x) (k' := k')
  cases hwr : numR L 0 4096 22 k0 with
  | no j er =>
    rw [hwr] at LM
    simp only [Rd.nx]
    rw [tells_no]
    simp only [tells_no] at LM
    unfold Dies at *
    go_enter Tryz.func84, Tryz.ntmps84
    go_wp2_with fail
    with_reducible refine (LM _ (h.next (new_below _ _))).mono ?_
    rintro e w1 ⟨rfl, kb⟩
    go_wp2
    exact ⟨rfl, rfl, (Kb.of (new_below w _)).trans kb⟩
  | ok z k2 =>
    rw [hwr] at LM hnk
    simp only [tells_ok] at LM
    obtain ⟨_, _, _, _, hz1, hz2, _⟩ := hnk z k2 rfl
    have hF : ∀ l j, (fun (S : List (Int × List Int)) (k3 : Nat) => Rd.ok (⟨3, 0, [], [], z, S⟩ : In) k3) l j = .ok ⟨3, 0, [], [], z, l⟩ j := fun _ _ => rfl
    obtain ⟨F, hFe⟩ : ∃ F, (fun (S : List (Int × List Int)) (k3 : Nat) => Rd.ok (⟨3, 0, [], [], z, S⟩ : In) k3) = F := ⟨_, rfl⟩
    change Calls _ _ _ _ (Tells r L w ((setsG L z [] k2).nx (fun (S : List (Int × List Int)) (k3 : Nat) => Rd.ok (⟨3, 0, [], [], z, S⟩ : In) k3)) _ _)
    rw [hFe] at hF ⊢
    obtain ⟨R, hR⟩ : ∃ R, (setsG L z [] k2).nx F = R := ⟨_, rfl⟩
    rw [hR]
    have HF := Lib.hid hF
    have HR := Lib.hid hR
    have HI0 := Lib.hid (iblk_new w (.int .i64 0) (.int .i64 0) (.slice none 0 0) (.slice none 0 0) (.int .i64 0) (.slice none 0 0) 33)
    have EL := fun k W hW => elems_any r g C L hE hN k z hz1 hz2 W hW
    clear hk hwr hR hF hFe hnk hN
    go_enter Tryz.func84, Tryz.ntmps84
    go_wp2_with fail
    with_reducible refine (LM _ (h.next (new_below _ _))).mono ?_
    rintro e w2 ⟨v, rfl, rfl, h2, kb2⟩
    have kb3 := (Kb.of (r := r) (new_below w (.cells #[.int .i64 0, .int .i64 0, .slice none 0 0, .slice none 0 0, .int .i64 0, .slice none 0 0] 33))).trans kb2
    have hA0 : CvAt r g C L k2 z w w2.heap.size (.slice none 0 0) [] [] k2 (w2.alloc (.cells #[.int .i64 3, .int .i64 0, .slice none 0 0, .slice none 0 0, .int .i64 z, .slice none 0 0] 33)) :=
      ⟨⟨(HI0.out.kb kb2 (by omega)).next (new_below _ _), iblk_new _ _ _ _ _ _ _ _, World.ownsRow_nil _ _ _ _, rfl, fun i s v a => by simp at a, h2.next (new_below _ _), kb3.alloc _, by have := kb2.size; simp at *; omega⟩, rfl, by simp⟩
    have HA0 := Lib.hid hA0
    obtain ⟨ib, hib⟩ : ∃ ib, w2.heap.size = ib := ⟨_, rfl⟩
    clear hA0 HI0 h2 kb2 kb3 h
    go_wp2
    rw [hib] at HA0
    clear hib
    go_loopw [5] (fun _ wr => ∃ (va : Value) (S : List (Int × List Int)) (us : List Value) (k : Nat), Hid (CvAt r g C L k2 z w ib va S us k wr)) (fun _ wr => leftN r wr)
    case atStart => exact ⟨_, [], [], k2, HA0⟩
    case round =>
      obtain ⟨va, S, us, k, hA⟩ := hrel
      have HA := Lib.hid hA.out
      clear hA HA0
      obtain ⟨A, cp, rfl⟩ := own_sliceP HA.out.c.own
      have hrd := HA.out.c.rd
      have hlt := hrd.lt
      have HL := Lib.hid hrd.left
      have AN := another_any r g C L hE k S.length ⟨#[115, 101, 116]⟩ setW rfl wr hrd
      have hq := (setsG_more hE z S hlt).symm.trans HA.out.q
      obtain ⟨b0, b1, b2, b3, b4, b5⟩ := HA.out.c.box.box
      have hb5 := HA.out.c.box.free 5
      have hibl := HA.out.c.box.lt
      have HRD := Lib.hid hrd
      clear hrd
      have hmr : moreR L setW S.length k = .ok false k ∨ moreR L setW S.length k = .no k 22 ∨ moreR L setW S.length k = .ok true (k + 1) ∧ ¬ S.length = 4096 := by
        unfold moreR
        split
        · split
          · exact .inr (.inl rfl)
          · rename_i q; exact .inr (.inr ⟨rfl, q⟩)
        · exact .inl rfl
      rcases hmr with hm | hm | ⟨hm, hnn⟩
      · rw [hm] at AN hq
        simp only [tells_ok] at AN
        simp only [Rd.nx] at hq
        have HRR := Lib.hid (show Rd.ok (⟨3, 0, [], [], z, S⟩ : In) k = R from (HF.out S k).symm.trans ((congrArg (·.nx F) hq).trans HR.out))
        clear hq hm
        go_wp2_with fail
        with_reducible refine AN.mono ?_
        rintro e w3 ⟨v, rfl, rfl, h3, kb⟩
        have HA3 := Lib.hid (HA.out.c.kb' hr0 h3 kb)
        obtain ⟨d0, d1, d2, d3, d4, d5⟩ := HA3.out.box.box
        obtain ⟨e0, e1, e2, e3, e4, e5⟩ := HA3.out.res.box
        have f := HA3.out.res.free
        have f0 := f 0
        have f1 := f 1
        have f2 := f 2
        have f3 := f 3
        have f4 := f 4
        have f5 := f 5
        have hne := Lib.hid HA.out.c.ib0
        clear f AN kb h3 b0 b1 b2 b3 b4 b5 hb5 HL
        go_wp2
        refine bodyPost_ret (v := inV ⟨3, 0, [], [], z, S⟩ (.slice none 0 0) (.slice none 0 0) (.slice A S.length cp)) (by simp [results, Tryz.results84, go_sem, inV, e0, e1, e2, e3, e4, e5]) rfl ?_
        rw [← HRR.out, tells_ok]
        have hn0 := hne.out
        exact ⟨_, rfl, ins_sets (own_set6 HA3.out.own (by omega)) (by omega) HA3.out.ul (fun i s v a b => Lies.imp ((HA3.out.rows i s v a b).held (held_set6 (b := w.heap.size) (fun q hq => by have := hq.1; omega))) (fun q hq => by have := hq.1; omega)), HA3.out.rd.set6 (by omega) (by omega), HA3.out.kb.set6 (Nat.le_refl _)⟩
      · rw [hm] at AN hq
        simp only [tells_no] at AN
        simp only [Rd.nx] at hq
        have HRR := Lib.hid (show Rd.no k 22 = R from (congrArg (·.nx F) hq).trans HR.out)
        have HK := Lib.hid HA.out.c.kb
        unfold Dies at AN
        clear hq hm
        go_wp2_with fail
        with_reducible refine AN.mono ?_
        rintro e w3 ⟨rfl, kb⟩
        go_wp2
        rw [← HRR.out]
        exact ⟨rfl, rfl, HK.out.trans kb⟩
      · rw [hm] at AN hq
        simp only [tells_ok] at AN
        simp only [Rd.nx, if_true] at hq
        clear hm
        have A2 := AM (k + 1)
        cases hn1 : numR L 0 2147483648 22 (k + 1) with
        | no j er =>
          rw [hn1] at hq A2
          simp only at hq
          simp only [tells_no] at A2
          unfold Dies at A2
          have HRR := Lib.hid (show Rd.no j er = R from (congrArg (·.nx F) hq).trans HR.out)
          clear hq hn1
          go_wp2_with fail
          with_reducible refine AN.mono ?_
          rintro e w3 ⟨v, rfl, rfl, h3, kb⟩
          have HK := Lib.hid (HA.out.c.kb.trans kb)
          go_wp2_with fail
          with_reducible refine (A2 _ h3).mono ?_
          rintro e w4 ⟨rfl, kb4⟩
          go_wp2
          rw [← HRR.out]
          exact ⟨rfl, rfl, HK.out.trans kb4⟩
        | ok c k3 =>
          rw [hn1] at hq A2
          simp only at hq
          simp only [tells_ok] at A2
          have hnk3 := numR_ok hn1
          clear hn1
          have TK := fun W hW => take_any r g C L hE k3 2 (by omega) 2 rfl W hW
          cases hn2 : tokR L 2 k3 with
          | no j er =>
            rw [hn2] at hq TK
            simp only at hq
            simp only [tells_no] at TK
            unfold Dies at TK
            have HRR := Lib.hid (show Rd.no j er = R from (congrArg (·.nx F) hq).trans HR.out)
            clear hq hn2
            go_wp2_with fail
            with_reducible refine AN.mono ?_
            rintro e w3 ⟨v, rfl, rfl, h3, kb⟩
            go_wp2_with fail
            with_reducible refine (A2 _ h3).mono ?_
            rintro e w4 ⟨v', rfl, rfl, h4, kb4⟩
            have HK := Lib.hid ((HA.out.c.kb.trans kb).trans kb4)
            go_wp2_with fail
            with_reducible refine (TK _ h4).mono ?_
            rintro e w5 ⟨rfl, kb5⟩
            go_wp2
            rw [← HRR.out]
            exact ⟨rfl, rfl, HK.out.trans kb5⟩
          | ok tk0 k4 =>
            rw [hn2] at hq TK
            simp only at hq
            simp only [tells_ok] at TK
            have hk4 : k4 = k3 + 1 := by
              unfold tokR at hn2
              split at hn2
              · cases hn2
              · split at hn2
                · injection hn2 with _ q; exact q.symm
                · cases hn2
            have R1 := EL k4
            obtain ⟨N, hN⟩ : ∃ N, elemsG L z 0 [] k4 = N := ⟨_, rfl⟩
            have hfit : k4 < L.length → ∀ l k5, N = .ok l k5 → k4 ≤ k5 := fun hk4l l k5 e => by
              have := elemsR_fit hE z _ 0 [] k4 hk4l (Nat.le_refl _)
              change (elemsG L z 0 [] k4).Fit _ _ at this
              rw [hN, e] at this
              exact this.1
            rw [hN] at hq R1
            have HQ := Lib.hid hq
            have HFT0 := Lib.hid hfit
            clear hq hN hn2 hfit
            go_wp2_with fail
            with_reducible refine AN.mono ?_
            rintro e w3 ⟨v', rfl, rfl, h3, kb⟩
            go_wp2_with fail
            with_reducible refine (A2 _ h3).mono ?_
            rintro e w4 ⟨v', rfl, rfl, h4, kb4⟩
            go_wp2_with fail
            with_reducible refine (TK _ h4).mono ?_
            rintro e w5 ⟨v', rfl, rfl, h5, kb5⟩
            have hne := HA.out.c.ib0
            have hl2 := HA.out.len
            have HP := Lib.hid (show Cv0 r g C L z w ib (.slice A S.length cp) S us k4 w5 from HA.out.c.kb' hr0 h5 ((kb.trans kb4).trans kb5))
            have HK3 := Lib.hid (show k3 = k + 1 + 1 by obtain ⟨_, _, _, _, _, _, q⟩ := hnk3; exact q)
            have HK4 := Lib.hid hk4
            have HFT := Lib.hid (HFT0.out h5.lt)
            clear HFT0
            clear kb kb4 kb5 h3 h4 h5 AN A2 b0 b1 b2 b3 b4 b5 hb5 hibl hnk3 hk4 TK
            go_wp2
            have ok : (planCv r ib A S.length cp c z).ok = true := rfl
            refine region_inv (Inv := fun lq_ aq_ wr => ∃ (e : Nat → Bool) (t : Nat → Value), lq_ = #[e 0, e 1, e 2, e 3, e 4, e 5, e 6, e 7, e 8, e 9, e 10] ∧ aq_ = ⟨#[.pointer (some ⟨r, 0, none⟩), undef, .pointer (some ⟨w.heap.size, 0, none⟩), .int .i64 z, .pointer (some ⟨ib, 0, none⟩), .int .i64 c, .pointer (some ⟨r, 0, none⟩), .int .i64 z, .int .i64 z, .agg #[.int .i64 3, .int .i64 0, .slice none 0 0, .slice none 0 0, .int .i64 z, .slice none 0 0], .pointer (some ⟨r, 0, none⟩), .pointer (some ⟨ib, 5, none⟩), .slice A S.length cp, .int .i64 (S.length : Int), .bool true, .pointer (some ⟨r, 0, none⟩), .int .i64 c, .pointer (some ⟨r, 0, none⟩), tkV tk0, t 19, t 20, t 21, t 22, t 23, t 24, t 25, t 26, t 27, t 28, undef], []⟩ ∧ Vals (planCv r ib A S.length cp c z) e t ∧ Cl 5 7 8 10 1 6 24 25 26 27 (.int .i64 c) (Cv0 r g C L z w ib (.slice A S.length cp) S us k4) (Cv1 N r g C L z w ib (.slice A S.length cp) S us) (CvLit N r g C L z w ib (.slice A S.length cp) S us c) (CvApp N r g C L z w ib (.slice A S.length cp) S us c) (fun w_ => ∃ tv us_ l k5, N = .ok l k5 ∧ CvAt r g C L k2 z w ib tv (S ++ [(c, l)]) us_ k5 w_) e t wr) (by kernel_rfl) ?step ?start ?done
            case start => exact ⟨fun _ => false, fun j => if j = 19 then u19 else if j = 20 then u20 else if j = 21 then u21 else if j = 22 then u22 else if j = 23 then u23 else if j = 24 then u24 else if j = 25 then u25 else if j = 26 then u26 else if j = 27 then u27 else if j = 28 then u28 else undef, rfl, rfl, Vals.start _ _, Cl.start _ (HP.out.next (Below.refl _ _).drew)⟩
            case step =>
              rintro lq_ aq_ wr ⟨e, t, rfl, rfl, hs, hm⟩ q_ o ho hi ha
              match q_, ho, hi, ha with
              | 0, ho, hi, ha =>
                obtain rfl : _ = o := Option.some.inj ho
                have hi : e 0 = false := hi
                refine wpOp_step (i := 0) rfl (fun K hK => ?_)
                have HK : Shut (∀ a w, _ → K a w) := hK
                clear hK ho
                have HS := Lib.hid hs
                have HM := Lib.hid hm
                have HI := Lib.hid hi
                clear hs ha hm hi
                go_simp
                exact HK.out _ _ ⟨upd e 0 true, upd t 19 _, rfl, rfl, by exact HS.out.put ok (i := 0) rfl, (by exact HM.out.of (by decide) (by decide) (by decide) (by decide) (by decide) (by decide) (by decide) (by decide) (by decide))⟩
              | 1, ho, hi, ha =>
                obtain rfl : _ = o := Option.some.inj ho
                have hi : e 1 = false := hi
                have T0 : t 19 = .pointer (some ⟨ib, 5, none⟩) := hs.val 0 rfl (ha { on := 0, ground := .data } (by simp) rfl)
                have H0 := Lib.hid T0
                have xa_ := (hm.load hi (B := fun w_ => IBlk ib 33 (.int .i64 3) (.int .i64 0) (.slice none 0 0) (.slice none 0 0) (.int .i64 z) (.slice A S.length cp) w_) (fun _ q => q.box) (fun _ _ q => by obtain ⟨_, _, _, _, q⟩ := q; exact q.box) (fun _ _ q => by obtain ⟨_, _, _, _, _, _, _, _, q⟩ := q; exact q.box)).box.c5
                refine wpOp_step (i := 1) rfl (fun K hK => ?_)
                have HK : Shut (∀ a w, _ → K a w) := hK
                clear hK ho
                have HS := Lib.hid hs
                have HM := Lib.hid hm
                have HI := Lib.hid hi
                clear hs ha hm hi
                go_simp
                exact HK.out _ _ ⟨upd e 1 true, upd (upd t 19 _) 20 _, rfl, rfl, by rw [upd_self H0.out]; exact HS.out.put ok (i := 1) rfl, (by rw [upd_self H0.out]; exact HM.out.of (by decide) (by decide) (by decide) (by decide) (by decide) (by decide) (by decide) (by decide) (by decide))⟩
              | 2, ho, hi, ha =>
                obtain rfl : _ = o := Option.some.inj ho
                have hi : e 2 = false := hi
                refine wpOp_step (i := 2) rfl (fun K hK => ?_)
                have HK : Shut (∀ a w, _ → K a w) := hK
                clear hK ho
                have HS := Lib.hid hs
                have HM := Lib.hid hm
                have HI := Lib.hid hi
                clear hs ha hm hi
                go_simp
                exact HK.out _ _ ⟨upd e 2 true, upd t 21 _, rfl, rfl, by exact HS.out.put ok (i := 2) rfl, (by exact HM.out.of (by decide) (by decide) (by decide) (by decide) (by decide) (by decide) (by decide) (by decide) (by decide))⟩
              | 3, ho, hi, ha =>
                obtain rfl : _ = o := Option.some.inj ho
                have hi : e 3 = false := hi
                refine wpOp_step (i := 3) rfl (fun K hK => ?_)
                have HK : Shut (∀ a w, _ → K a w) := hK
                clear hK ho
                have HS := Lib.hid hs
                have HM := Lib.hid hm
                have HI := Lib.hid hi
                clear hs ha hm hi
                go_simp
                exact HK.out _ _ ⟨upd e 3 true, upd t 22 _, rfl, rfl, by exact HS.out.put ok (i := 3) rfl, (by exact HM.out.of (by decide) (by decide) (by decide) (by decide) (by decide) (by decide) (by decide) (by decide) (by decide))⟩
              | 4, ho, hi, ha =>
                obtain rfl : _ = o := Option.some.inj ho
                have hi : e 4 = false := hi
                refine wpOp_step (i := 4) rfl (fun K hK => ?_)
                have HK : Shut (∀ a w, _ → K a w) := hK
                clear hK ho
                have HS := Lib.hid hs
                have HM := Lib.hid hm
                have HI := Lib.hid hi
                clear hs ha hm hi
                go_simp
                exact HK.out _ _ ⟨upd e 4 true, upd t 23 _, rfl, rfl, by exact HS.out.put ok (i := 4) rfl, (by exact HM.out.of (by decide) (by decide) (by decide) (by decide) (by decide) (by decide) (by decide) (by decide) (by decide))⟩
              | 5, ho, hi, ha =>
                obtain rfl : _ = o := Option.some.inj ho
                have hi : e 5 = false := hi
                have T3 : t 22 = .pointer (some ⟨r, 0, none⟩) := hs.val 3 rfl (ha { on := 3, ground := .data } (by simp) rfl)
                have T4 : t 23 = .int .i64 z := hs.val 4 rfl (ha { on := 4, ground := .data } (by simp) rfl)
                have H3 := Lib.hid T3
                have H4 := Lib.hid T4
                have hA0 := Lib.hid (hm.p0 hi)
                have CL_ := R1 wr hA0.out.rd
                refine wpOp_step (i := 5) rfl (fun K hK => ?_)
                have HK : Shut (∀ a w, _ → K a w) := hK
                clear hK ho
                have HS := Lib.hid hs
                have HM := Lib.hid hm
                have HI := Lib.hid hi
                clear hs ha hm hi
                go_simp
                (with_reducible refine CL_.mono ?_)
                intro e' w' hT
                cases N with
                | no j er =>
                  obtain ⟨rfl, kb⟩ := hT
                  go_wp2_with fail
                  rw [← show Rd.no j er = R from (congrArg (·.nx F) HQ.out).trans HR.out]
                  exact ⟨rfl, rfl, hA0.out.kb.trans kb⟩
                | ok l k5 =>
                  obtain ⟨v_, rfl, hel, h1, kb⟩ := hT
                  go_wp2_with fail
                  exact HK.out _ _ ⟨upd e 5 true, upd (upd (upd t 22 _) 23 _) 24 _, rfl, rfl, by rw [upd_self H3.out, upd_self H4.out]; exact HS.out.skip' (i := 5) rfl rfl, (by rw [upd_self H3.out, upd_self H4.out]; exact HM.out.call HI.out (by decide) (by decide) (by decide) (by decide) (own_form3 hel) (hA0.out.call hr0 rfl hel h1 kb))⟩
              | 6, ho, hi, ha =>
                obtain rfl : _ = o := Option.some.inj ho
                have hi : e 6 = false := hi
                have T2 : t 21 = .int .i64 c := hs.val 2 rfl (ha { on := 2, ground := .data } (by simp) rfl)
                have H2 := Lib.hid T2
                have D5 : Hid (e 5 = true) := ha { on := 5, ground := .data } (by simp) rfl
                obtain ⟨EA_, en_, EC_, T24⟩ := hm.sh D5.out
                have H24 := Lib.hid T24
                refine wpOp_step (i := 6) rfl (fun K hK => ?_)
                have HK : Shut (∀ a w, _ → K a w) := hK
                clear hK ho
                have HS := Lib.hid hs
                have HM := Lib.hid hm
                have HI := Lib.hid hi
                clear hs ha hm hi
                go_simp
                exact HK.out _ _ ⟨upd e 6 true, upd (upd (upd t 21 _) 24 _) 25 _, rfl, rfl, by rw [upd_self H2.out, upd_self H24.out]; exact HS.out.skip' (i := 6) rfl rfl, (by rw [upd_self H2.out, upd_self H24.out]; rw [← H24.out]; exact HM.out.bld D5.out (by decide) (by decide) (by decide) (by decide) (by decide) (by decide) (by decide) (by decide))⟩
              | 7, ho, hi, ha =>
                obtain rfl : _ = o := Option.some.inj ho
                have hi : e 7 = false := hi
                have D6 := hm.b1 (ha { on := 6, ground := .data } (by simp) rfl)
                obtain ⟨D5, T25⟩ := D6
                obtain ⟨EA_, en_, EC_, T24⟩ := hm.sh D5
                rw [T24] at T25
                have H25 := Lib.hid T25
                have hA1 := hm.p1 D5 hi
                rw [T24] at hA1
                have HA1 := Lib.hid hA1
                have D5_ := Lib.hid D5
                clear T24 hA1 D5
                refine wpOp_step (i := 7) rfl (fun K hK => ?_)
                have HK : Shut (∀ a w, _ → K a w) := hK
                clear hK ho
                have HS := Lib.hid hs
                have HM := Lib.hid hm
                have HI := Lib.hid hi
                clear hs ha hm hi
                go_simp
                exact HK.out _ _ ⟨upd e 7 true, upd (upd t 25 _) 26 _, rfl, rfl, by rw [upd_self H25.out]; exact HS.out.skip' (i := 7) rfl rfl, (by rw [upd_self H25.out]; exact HM.out.make HI.out D5_.out (by decide) (by decide) (by decide) (by decide) (by decide) (by decide) HA1.out.lit)⟩
              | 8, ho, hi, ha =>
                obtain rfl : _ = o := Option.some.inj ho
                have hi : e 8 = false := hi
                have d1 : e 1 = true := ha { on := 1, ground := .data } (by simp) rfl
                have d7 : e 7 = true := ha { on := 7, ground := .data } (by simp) rfl
                have TS_ : t 20 = .slice A S.length cp := hs.val 1 rfl d1
                obtain ⟨g_, ev_, TX, hN, hB⟩ := hm.p2 d7 hi
                obtain ⟨EA_, en_, EC_, rfl⟩ : ∃ A n C, ev_ = .slice A n C := by obtain ⟨l_, _, _, q, _⟩ := hB; obtain ⟨a_, c_, q_⟩ := q.slice; exact ⟨a_, _, c_, q_⟩
                refine wpOp_step (i := 8) rfl (fun K hK => ?_)
                refine step_append_lies wr rfl (.tmp 20) (.tmp 26) 31 rfl (ib + 1) 71 i0 (.agg #[.int .i64 0, .slice none 0 0]) 2 32 Tryz.underlying31 hi0 hz01 hz02 hz03 rfl (by decide) (.slice A S.length cp) S.length (flS S us) TS_ hB.c0.own ⟨g_, 0, none⟩ 1 1 [.int .i64 c, .slice EA_ en_ EC_] TX rfl (World.news_of_block hN) (set_oneP _ _ _ _) (by omega) (by unfold maxLen; omega) (by omega) hB.c0.box.lt wr.heap.size rfl ?_
                intro g' c' w' hown hgrow hat _
                exact hK _ _ ⟨upd e 8 true, upd t 27 _, rfl, rfl, hs.skip' (i := 8) rfl rfl, hm.app hi d7 d1 (by decide) (by decide) (by decide) (by decide) (by decide) (by decide) (by decide) (hB.app hr0 hg0 hown hgrow hat)⟩
              | 9, ho, hi, ha =>
                obtain rfl : _ = o := Option.some.inj ho
                have hi : e 9 = false := hi
                refine wpOp_step (i := 9) rfl (fun K hK => ?_)
                have HK : Shut (∀ a w, _ → K a w) := hK
                clear hK ho
                have HS := Lib.hid hs
                have HM := Lib.hid hm
                have HI := Lib.hid hi
                clear hs ha hm hi
                go_simp
                exact HK.out _ _ ⟨upd e 9 true, upd t 28 _, rfl, rfl, by exact HS.out.put ok (i := 9) rfl, (by exact HM.out.of (by decide) (by decide) (by decide) (by decide) (by decide) (by decide) (by decide) (by decide) (by decide))⟩
              | 10, ho, hi, ha =>
                obtain rfl : _ = o := Option.some.inj ho
                have hi : e 10 = false := hi
                have T9 : t 28 = .pointer (some ⟨ib, 5, none⟩) := hs.val 9 rfl (ha { on := 9, ground := .data } (by simp) rfl)
                have H9 := Lib.hid T9
                have DP : Hid (e 8 = true) := ha { on := 8, ground := .data } (by simp) rfl
                have hA3 := hm.p3 DP.out hi
                obtain ⟨g_, c_, _, _, _, _, T27, _, _, hbx, _⟩ := id hA3
                have H27 := Lib.hid T27
                have of_ := hbx.free 5
                have oc_ := hbx.box.c5
                have HA3 := Lib.hid hA3
                clear hA3 hbx
                refine wpOp_step (i := 10) rfl (fun K hK => ?_)
                have HK : Shut (∀ a w, _ → K a w) := hK
                clear hK ho
                have HS := Lib.hid hs
                have HM := Lib.hid hm
                have HI := Lib.hid hi
                clear hs ha hm hi
                go_simp
                exact HK.out _ _ ⟨upd e 10 true, (upd (upd t 28 _) 27 _), rfl, rfl, by rw [upd_self H9.out, upd_self H27.out]; exact HS.out.skip (i := 10) rfl, (by rw [upd_self H9.out, upd_self H27.out, ← H27.out]; exact HM.out.st DP.out (by decide) (by decide) (by decide) (by decide) (by decide) ⟨_, HA3.out.st hr0 hg0 hnn hl2 HQ.out⟩)⟩
              | k + 11, ho, hi, ha => simp at ho
            case done =>
              rintro lq_ aq_ wr ⟨e, t, rfl, rfl, hs, hm⟩ hr
              have hd := ready_done hr rfl (by decide +kernel)
              have E : Hid (∃ tv us' l k5, N = .ok l k5 ∧ CvAt r g C L k2 z w ib tv (S ++ [(c, l)]) us' k5 wr) := hm.p4 (hd 10 (by decide))
              clear hd hr hs ok hm HP
              generalize t 19 = t19, t 20 = t20, t 21 = t21, t 22 = t22, t 23 = t23, t 24 = t24, t 25 = t25, t 26 = t26, t 27 = t27, t 28 = t28 at *
              go_wp2
              go_roundw
              case rel =>
                obtain ⟨tv, us', l, k5, _, hE⟩ := E.out
                exact ⟨tv, _, us', k5, hE⟩
              case measure =>
                obtain ⟨tv, us', l, k5, hN5, hE⟩ := E.out
                have q := HFT.out l k5 hN5
                have hlt4 := hE.c.rd.lt
                rw [hE.c.rd.left, HL.out]
                have := HK3.out
                have := HK4.out
                omega
end Go.Proofs.YtbadingdklenhaaGreatDoor
