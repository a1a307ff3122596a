/-
  What Push does (layer 5).
-/
import Derived.Test.YtiighhcilgjebaaHeapPops
namespace Go.Proofs.Ytiighhcilgjebaa
set_option maxRecDepth 100000
open Go.RowKit Go.Sort

abbrev Pushed := PushedT 97 Right

theorem push_nil (x : En) (w : World) : Calls Try.prog 118 #[.pointer none, entV x] w fun e w' => e = .returned (.tuple #[]) ∧ Below w.heap.size w w' := by
  unfold entV
  go_enter Try.func118, Try.ntmps118
  go_wp2
  refine bodyPost_ret (results_none rfl _ _ _) rfl ?_
  exact ⟨rfl, (Below.refl _ _).alloc (Nat.le_refl _) _⟩

def planPu (hb : Nat) (v : Value) (x : En) (w0 : World) : Plan := { ks := [0, 0, 0, 0, 0, 0, 0, 2, 0, 0, 2], ds := [6, 7, 8, 9, 10, 11, 12, 0, 14, 15, 0], vs := [.pointer (some ⟨hb, 0, none⟩), .pointer (some ⟨hb, 0, none⟩), .pointer (some ⟨hb, 0, none⟩), .pointer (some ⟨hb, 0, none⟩), v, .agg #[.int .i64 x.b, .int .i64 x.d, .int .i64 x.s, .int .i64 x.i], .slice (some ⟨w0.heap.size, 0, none⟩) 1 1, undef, .pointer (some ⟨hb, 0, none⟩), .pointer (some ⟨hb, 0, none⟩), undef], ss := [0, 0, 0, 0, 0, 0, 0, 0, 0, 0, 0], zs := [#[], #[], #[], #[], #[], #[], #[], #[], #[], #[], #[]], fs := [#[], #[], #[], #[], #[], #[], #[], #[], #[], #[], #[]], ts := [0, 0, 0, 0, 0, 0, 0, 0, 0, 0, 0] }
set_option maxHeartbeats 4000000 in
theorem push_any (l : List En) (hl : l.length ≤ 900) (B hb : Nat) (v : Value) (x : En) (w : World) (h : HeapAt w B hb v l) (hr : Right l) : Calls Try.prog 118 #[.pointer (some ⟨hb, 0, none⟩), entV x] w (Pushed B hb v l x w) := by
  obtain ⟨i0, hi0, hz0, hz1_, hz2⟩ := info_parts' infoE
  have B1 : Below w.heap.size w (w.alloc (.cells #[.int .i64 x.b, .int .i64 x.d, .int .i64 x.s, .int .i64 x.i] 32)).drew := ((Below.refl _ _).alloc (Nat.le_refl _) _).drew
  have HB1 := Lib.hid B1
  have HH := Lib.hid h
  have HRT := Lib.hid hr
  have h1 := h.next B1
  have HX : Hid (EBox w.heap.size x (w.alloc (.cells #[.int .i64 x.b, .int .i64 x.d, .int .i64 x.s, .int .i64 x.i] 32)).drew) := (ebox_new w x.b x.d x.s x.i 32).next (Below.refl _ _).drew
  have HC : Hid (CBox hb v (w.alloc (.cells #[.int .i64 x.b, .int .i64 x.d, .int .i64 x.s, .int .i64 x.i] 32)).drew) := ⟨h1.cell, h1.lt⟩
  have HZ : Hid ((w.alloc (.cells #[.int .i64 x.b, .int .i64 x.d, .int .i64 x.s, .int .i64 x.i] 32)).drew.heap.size = w.heap.size + 1) := by show _ = _; simp [World.drew]
  have HH1 := Lib.hid h1
  have hlt := h.lt
  obtain ⟨n, en⟩ : ∃ n, l.length = n := ⟨_, rfl⟩
  have HEN := Lib.hid en
  rw [en] at hl
  clear h hr h1 B1 en
  unfold entV
  go_enter Try.func118, Try.ntmps118
  go_wp2
  obtain ⟨w0, hw0⟩ : ∃ w0, w0 = (w.alloc (.cells #[.int .i64 x.b, .int .i64 x.d, .int .i64 x.s, .int .i64 x.i] 32)).drew := ⟨_, rfl⟩
  rw [← hw0] at HB1 HX HC HZ HH1
  have HW0 := Lib.hid hw0
  clear hw0
  have HN1 := Lib.hid (heap_alloc_new w0 (.cells #[.int .i64 x.b, .int .i64 x.d, .int .i64 x.s, .int .i64 x.i] 32))
  have HB2 : Hid (Below w0.heap.size w0 (w0.alloc (.cells #[.int .i64 x.b, .int .i64 x.d, .int .i64 x.s, .int .i64 x.i] 32))) := (Below.refl _ _).alloc (Nat.le_refl _) _
  have HO : Hid ((w0.alloc (.cells #[.int .i64 x.b, .int .i64 x.d, .int .i64 x.s, .int .i64 x.i] 32)).ownsRow B 32 4 v n (flatE l)) := by
    have q := HH1.out.row
    rw [HEN.out] at q
    exact q.alloc _
  have HZ2 : Hid ((w0.alloc (.cells #[.int .i64 x.b, .int .i64 x.d, .int .i64 x.s, .int .i64 x.i] 32)).heap.size = w0.heap.size + 1) := by show _ = _; simp
  have happ : ∀ wr g cap, AppOk B n v l x (w0.alloc (.cells #[.int .i64 x.b, .int .i64 x.d, .int .i64 x.s, .int .i64 x.i] 32)) g cap wr → wr.cell? ⟨hb, 0, none⟩ = some v ∧ wr.frozen? ⟨hb, 0, none⟩ = false := by
    intro wr g cap hA
    have q := HH1.out.next HB2.out
    have hb' := (hA.grow.block hb q.lt (fun e => q.ne hb e.symm rfl)).trans q.blk
    exact ⟨by rw [cell_of hb']; rfl, frozen_of hb' 0⟩
  have one4 : ∀ u ∈ encE x, u.oneCell' = true := by
    intro u hu; simp [encE] at hu; rcases hu with rfl | rfl | rfl | rfl <;> rfl
  have ok : (planPu hb v x w0).ok = true := rfl
  refine region_inv (Inv := fun lq_ a wr => ∃ (e : Nat → Bool) (t : Nat → Value), lq_ = #[e 0, e 1, e 2, e 3, e 4, e 5, e 6, e 7, e 8, e 9, e 10] ∧ a = ⟨#[.pointer (some ⟨hb, 0, none⟩), .agg #[.int .i64 x.b, .int .i64 x.d, .int .i64 x.s, .int .i64 x.i], undef, .pointer (some ⟨w.heap.size, 0, none⟩), .pointer (some ⟨hb, 0, none⟩), .bool false, t 6, t 7, t 8, t 9, t 10, t 11, t 12, t 13, t 14, t 15, undef, undef, undef, undef, undef, undef, undef, undef, undef, undef, undef], []⟩ ∧ Vals (planPu hb v x w0) e t ∧ MPush B hb n v l x w0 (w0.alloc (.cells #[.int .i64 x.b, .int .i64 x.d, .int .i64 x.s, .int .i64 x.i] 32)) e (t 13) wr) (by kernel_rfl) ?step ?start ?done
  case start => exact ⟨fun _ => false, fun _ => undef, rfl, rfl, Vals.start _ _, by rw [← HW0.out]; exact MPush.start _ _ _ _ _ _ _ _ _⟩
  case step =>
    rintro lq_ a wr ⟨e, t, rfl, rfl, hs, hm⟩ q_ o ho hi ha
    match q_, ho, hi, ha with
    | 0, ho, hi, ha =>
      obtain rfl : _ = o := Option.some.inj ho
      have hi : e 0 = false := hi
      refine wpOp_step (i := 0) rfl (fun K hK => ?_)
      have HK : Shut (∀ a w, _ → K a w) := hK
      clear hK ho
      have HS := Lib.hid hs
      have HM := Lib.hid hm
      have HI := Lib.hid hi
      clear hs ha hm hi
      go_simp
      exact HK.out _ _ ⟨upd e 0 true, upd t 6 _, rfl, rfl, by exact HS.out.put ok (i := 0) rfl, HM.out.of rfl rfl rfl (.inl rfl) (.inl rfl)⟩
    | 1, ho, hi, ha =>
      obtain rfl : _ = o := Option.some.inj ho
      have hi : e 1 = false := hi
      refine wpOp_step (i := 1) rfl (fun K hK => ?_)
      have HK : Shut (∀ a w, _ → K a w) := hK
      clear hK ho
      have HS := Lib.hid hs
      have HM := Lib.hid hm
      have HI := Lib.hid hi
      clear hs ha hm hi
      go_simp
      exact HK.out _ _ ⟨upd e 1 true, upd t 7 _, rfl, rfl, by exact HS.out.put ok (i := 1) rfl, HM.out.of rfl rfl rfl (.inl rfl) (.inl rfl)⟩
    | 2, ho, hi, ha =>
      obtain rfl : _ = o := Option.some.inj ho
      have hi : e 2 = false := hi
      have T1 : t 7 = .pointer (some ⟨hb, 0, none⟩) := hs.val 1 rfl (ha { on := 1, ground := .data } (by simp) rfl)
      have H1 := Lib.hid T1
      refine wpOp_step (i := 2) rfl (fun K hK => ?_)
      have HK : Shut (∀ a w, _ → K a w) := hK
      clear hK ho
      have HS := Lib.hid hs
      have HM := Lib.hid hm
      have HI := Lib.hid hi
      clear hs ha hm hi
      go_simp
      exact HK.out _ _ ⟨upd e 2 true, upd (upd t 7 _) 8 _, rfl, rfl, by rw [upd_self H1.out]; exact HS.out.put ok (i := 2) rfl, HM.out.of rfl rfl rfl (.inl rfl) (.inl rfl)⟩
    | 3, ho, hi, ha =>
      obtain rfl : _ = o := Option.some.inj ho
      have hi : e 3 = false := hi
      have T2 : t 8 = .pointer (some ⟨hb, 0, none⟩) := hs.val 2 rfl (ha { on := 2, ground := .data } (by simp) rfl)
      have H2 := Lib.hid T2
      refine wpOp_step (i := 3) rfl (fun K hK => ?_)
      have HK : Shut (∀ a w, _ → K a w) := hK
      clear hK ho
      have HS := Lib.hid hs
      have HM := Lib.hid hm
      have HI := Lib.hid hi
      clear hs ha hm hi
      go_simp
      exact HK.out _ _ ⟨upd e 3 true, upd (upd t 8 _) 9 _, rfl, rfl, by rw [upd_self H2.out]; exact HS.out.put ok (i := 3) rfl, HM.out.of rfl rfl rfl (.inl rfl) (.inl rfl)⟩
    | 4, ho, hi, ha =>
      obtain rfl : _ = o := Option.some.inj ho
      have hi : e 4 = false := hi
      have T3 : t 9 = .pointer (some ⟨hb, 0, none⟩) := hs.val 3 rfl (ha { on := 3, ground := .data } (by simp) rfl)
      have H3 := Lib.hid T3
      obtain ⟨c0, cz⟩ := HC.out.next (hm.early (hm.not7 (.inl hi)) HB2.out)
      refine wpOp_step (i := 4) rfl (fun K hK => ?_)
      have HK : Shut (∀ a w, _ → K a w) := hK
      clear hK ho
      have HS := Lib.hid hs
      have HM := Lib.hid hm
      have HI := Lib.hid hi
      clear hs ha hm hi
      go_simp
      exact HK.out _ _ ⟨upd e 4 true, upd (upd t 9 _) 10 _, rfl, rfl, by rw [upd_self H3.out]; exact HS.out.put ok (i := 4) rfl, HM.out.of rfl rfl rfl (.inr rfl) (.inl rfl)⟩
    | 5, ho, hi, ha =>
      obtain rfl : _ = o := Option.some.inj ho
      have hi : e 5 = false := hi
      obtain rfl := hm.a (hm.not6 hi)
      obtain ⟨c0, c1, c2, c3, cz⟩ := HX.out
      refine wpOp_step (i := 5) rfl (fun K hK => ?_)
      have HK : Shut (∀ a w, _ → K a w) := hK
      clear hK ho
      have HS := Lib.hid hs
      have HM := Lib.hid hm
      have HI := Lib.hid hi
      clear hs ha hm hi
      go_simp
      exact HK.out _ _ ⟨upd e 5 true, upd t 11 _, rfl, rfl, by exact HS.out.put ok (i := 5) rfl, HM.out.of rfl rfl rfl (.inl rfl) (.inr rfl)⟩
    | 6, ho, hi, ha =>
      obtain rfl : _ = o := Option.some.inj ho
      have hi : e 6 = false := hi
      have T5 : t 11 = .agg #[.int .i64 x.b, .int .i64 x.d, .int .i64 x.s, .int .i64 x.i] := hs.val 5 rfl (ha { on := 5, ground := .data } (by simp) rfl)
      have H5 := Lib.hid T5
      obtain rfl := hm.a hi
      have e5 := Lib.hid (ha { on := 5, ground := .data } (by simp) rfl)
      refine wpOp_step (i := 6) rfl (fun K hK => ?_)
      have HK : Shut (∀ a w, _ → K a w) := hK
      clear hK ho
      have HS := Lib.hid hs
      have HM := Lib.hid hm
      have HI := Lib.hid hi
      clear hs ha hm hi
      go_simp
      exact HK.out _ _ ⟨upd e 6 true, upd (upd t 11 _) 12 _, rfl, rfl, by rw [upd_self H5.out]; exact HS.out.put ok (i := 6) rfl, HM.out.set6 HI.out e5.out⟩
    | 7, ho, hi, ha =>
      obtain rfl : _ = o := Option.some.inj ho
      have hi : e 7 = false := hi
      have d4 : e 4 = true := ha { on := 4, ground := .data } (by simp) rfl
      have d6 : e 6 = true := ha { on := 6, ground := .data } (by simp) rfl
      have TS : t 10 = v := hs.val 4 rfl d4
      have TX : t 12 = .slice (some ⟨w0.heap.size, 0, none⟩) 1 1 := hs.val 6 rfl d6
      obtain rfl := hm.b d6 hi
      have hz := HZ2.out
      have hz1 := HZ.out
      have hBle := HH1.out.ge
      have hhb := HH1.out.lt
      refine wpOp_step (i := 7) rfl (fun K hK => ?_)
      refine step_append_lies (w0.alloc (.cells #[.int .i64 x.b, .int .i64 x.d, .int .i64 x.s, .int .i64 x.i] 32)) rfl (.tmp 10) (.tmp 12) 95 rfl B 32 i0 (.agg #[.int .i64 0, .int .i64 0, .int .i64 0, .int .i64 0]) 4 32 Try.underlying95 hi0 hz0 hz1_ hz2 rfl (by decide) v n (flatE l) TS HO.out ⟨w0.heap.size, 0, none⟩ 1 1 (encE x) TX rfl (World.news_of_block HN1.out) one4 (by omega) (by unfold maxLen; omega) (by omega) (by omega) (w0.alloc (.cells #[.int .i64 x.b, .int .i64 x.d, .int .i64 x.s, .int .i64 x.i] 32)).heap.size rfl ?_
      intro g' c' w' hown hgrow hat _
      exact hK _ _ ⟨upd e 7 true, upd t 13 _, rfl, rfl, hs.skip' (i := 7) rfl rfl, hm.set7 hi d4 d6 ⟨by rw [flatE_append, flatE_cons, flatE_nil, List.append_nil]; exact hown, hgrow, hat⟩⟩
    | 8, ho, hi, ha =>
      obtain rfl : _ = o := Option.some.inj ho
      have hi : e 8 = false := hi
      have T0 : t 6 = .pointer (some ⟨hb, 0, none⟩) := hs.val 0 rfl (ha { on := 0, ground := .data } (by simp) rfl)
      have H0 := Lib.hid T0
      refine wpOp_step (i := 8) rfl (fun K hK => ?_)
      have HK : Shut (∀ a w, _ → K a w) := hK
      clear hK ho
      have HS := Lib.hid hs
      have HM := Lib.hid hm
      have HI := Lib.hid hi
      clear hs ha hm hi
      go_simp
      exact HK.out _ _ ⟨upd e 8 true, upd (upd t 6 _) 14 _, rfl, rfl, by rw [upd_self H0.out]; exact HS.out.put ok (i := 8) rfl, HM.out.of rfl rfl rfl (.inl rfl) (.inl rfl)⟩
    | 9, ho, hi, ha =>
      obtain rfl : _ = o := Option.some.inj ho
      have hi : e 9 = false := hi
      have T8 : t 14 = .pointer (some ⟨hb, 0, none⟩) := hs.val 8 rfl (ha { on := 8, ground := .data } (by simp) rfl)
      have H8 := Lib.hid T8
      refine wpOp_step (i := 9) rfl (fun K hK => ?_)
      have HK : Shut (∀ a w, _ → K a w) := hK
      clear hK ho
      have HS := Lib.hid hs
      have HM := Lib.hid hm
      have HI := Lib.hid hi
      clear hs ha hm hi
      go_simp
      exact HK.out _ _ ⟨upd e 9 true, upd (upd t 14 _) 15 _, rfl, rfl, by rw [upd_self H8.out]; exact HS.out.put ok (i := 9) rfl, HM.out.of rfl rfl rfl (.inl rfl) (.inl rfl)⟩
    | 10, ho, hi, ha =>
      obtain rfl : _ = o := Option.some.inj ho
      have hi : e 10 = false := hi
      have d7 : e 7 = true := ha { on := 7, ground := .data } (by simp) rfl
      have d9 : e 9 = true := ha { on := 9, ground := .data } (by simp) rfl
      have T9 : t 15 = .pointer (some ⟨hb, 0, none⟩) := hs.val 9 rfl d9
      have H9 := Lib.hid T9
      obtain ⟨g, cap, T7, hA⟩ := hm.c d7 hi
      have H7 := Lib.hid T7
      have D7 := Lib.hid d7
      have HAp := Lib.hid hA
      obtain ⟨cc, ff⟩ := happ wr g cap hA
      refine wpOp_step (i := 10) rfl (fun K hK => ?_)
      have HK : Shut (∀ a w, _ → K a w) := hK
      clear hK ho
      have HS := Lib.hid hs
      have HM := Lib.hid hm
      clear hs ha hm hi hA d7 d9
      go_simp
      exact HK.out _ _ ⟨upd e 10 true, upd (upd t 15 _) 13 _, rfl, rfl, by rw [upd_self H9.out, upd_self H7.out]; exact HS.out.skip (i := 10) rfl, by rw [upd_self H9.out, upd_self H7.out]; exact HM.out.set10 D7.out HAp.out⟩
    | k + 11, ho, hi, ha => simp at ho
  case done =>
    rintro lq_ a wr ⟨e, t, rfl, rfl, hs, hm⟩ hr
    have hd := ready_done hr rfl (by decide +kernel)
    obtain ⟨gr, cap, wq, hA, rfl⟩ := hm.d (hd 10 (by decide))
    have q1 := HH1.out.next HB2.out
    have hz2_ := HZ2.out
    have hz_ := HZ.out
    have hgne : gr ≠ hb := by
      rcases hA.at_ with k | k
      · exact HH.out.ne gr k
      · omega
    have hgn : v.ownBlock = some gr ∨ w.heap.size ≤ gr := by
      rcases hA.at_ with k | k
      · exact .inl k
      · right; omega
    have hblk := (hA.grow.block hb q1.lt (fun e => q1.ne hb e.symm rfl)).trans q1.blk
    have hof : Off w hb v wq := ((Off.start HB1.out).below HB2.out).grownV hA.grow
    have hR : Row B gr (n + 1) cap (l ++ [x]) (wq.setCell ⟨hb, 0, none⟩ (.slice (some ⟨gr, 0, none⟩) (n + 1) cap)).drew :=
      World.ownsRow.drew (hA.own.kept (row := some hb) ⟨rfl, rfl, rfl, by simp [World.setCell], fun k _ h1 => Below.heap_setCell _ _ _ k (by simpa using h1)⟩ (.inr (by simp [Value.ownBlock]; exact hgne)))
    have hblk2 : (wq.setCell ⟨hb, 0, none⟩ (.slice (some ⟨gr, 0, none⟩) (n + 1) cap)).heap[hb]? = some (.cells #[.slice (some ⟨gr, 0, none⟩) (n + 1) cap] 97 (0, 0)) := set_block (o := 0) (v := .slice (some ⟨gr, 0, none⟩) (n + 1) cap) hblk
    have hof2 : Off w hb v (wq.setCell ⟨hb, 0, none⟩ (.slice (some ⟨gr, 0, none⟩) (n + 1) cap)) := hof.setCell (.inl rfl) _
    have cW : (wq.setCell ⟨hb, 0, none⟩ (.slice (some ⟨gr, 0, none⟩) (n + 1) cap)).cell? ⟨hb, 0, none⟩ = some (.slice (some ⟨gr, 0, none⟩) (n + 1) cap) := by rw [cell_of hblk2]; rfl
    have hhbw : hb < (wq.setCell ⟨hb, 0, none⟩ (.slice (some ⟨gr, 0, none⟩) (n + 1) cap)).heap.size := (Array.getElem?_eq_some_iff.1 hblk2).1
    have RS := rise_any l x (by rw [HEN.out]; exact hl) B gr cap _ (by rw [HEN.out]; exact hR) HRT.out
    rw [HEN.out] at RS
    have HBK := Lib.hid hblk2
    have HOF := Lib.hid hof2
    have HG1 := Lib.hid hgne
    have HG2 := Lib.hid hgn
    have HBB := Lib.hid HH.out.ge
    have HLT := Lib.hid hhbw
    have HLN : Hid (∀ l' : List En, l'.Perm (l ++ [x]) → l'.length = n + 1) := fun l' p => by rw [p.length_eq]; simp [HEN.out]
    clear hs hm hd hr hA q1 hz2_ hz_ hgne hgn hblk hof hR hblk2 hof2 happ HH HH1 HB1 HB2 HN1 HO HZ HZ2 HX HC HW0 hi0 hz0 hz1_ hz2 one4 hhbw
    generalize (wq.setCell ⟨hb, 0, none⟩ (.slice (some ⟨gr, 0, none⟩) (n + 1) cap)) = W at *
    generalize t 6 = u6, t 7 = u7, t 8 = u8, t 9 = u9, t 10 = u10, t 11 = u11, t 12 = u12, t 13 = u13, t 14 = u14, t 15 = u15
    have kw : IntKind.i64.wrap (((n : Int) + 1) - 1) = (n : Int) := by rw [IntKind.wrap_i64]; omega
    go_wp2
    go_still_tail 10, (by kernel_rfl)
    change wpList _ _ _ _ _ W.drew
    go_wp2_with fail
    with_reducible refine RS.mono ?_
    rintro e w' ⟨l', rfl, r4, g4, p4, q4⟩
    have E : Hid (Pushed B hb v l x w (.returned (.tuple #[])) w') := by
      refine ⟨.slice (some ⟨gr, 0, none⟩) (n + 1) cap, l', rfl, ⟨?_, HBB.out, by rw [HLN.out l' p4]; exact r4, fun q hq => ?_⟩, ?_, q4, p4, fun q hq => ?_⟩
      · exact (g4.block hb HLT.out (by simp; exact fun e => HG1.out e.symm)).trans HBK.out
      · simp [Value.ownBlock] at hq; subst hq; exact HG1.out
      · exact (HOF.out.below (Below.refl _ _).drew).grownN HG2.out g4
      · simp [Value.ownBlock] at hq; subst hq; exact HG2.out
    clear r4 g4 p4 q4 RS cW
    go_wp2
    go_end0
    exact E.out
end Go.Proofs.Ytiighhcilgjebaa
