/-
  DeheapPlays (layer 7, P7.1, P7.2): whatever is done to a heap of either kind, the answers are those of a list in order: for every truth, every slice of entries and every slice of acts the law returns true, and both slices read as they did. No condition.
-/
import Derived.Test.YtiighhcilgjebaaDePlKit
import Derived.Deep.CutRange
namespace Go.Proofs.Ytiighhcilgjebaa.deheapPlays
open Go.Proofs.Ytiighhcilgjebaa
set_option maxRecDepth 100000
open Go.RowKit Go.Sort

theorem bulk_pl (k : Bool) (l : List En) (v : Value) (w : World) (hl : l.length ≤ 25) (h : Lists w v l) : Calls Try.prog 9 #[.int .i64 (kN k), .int .i64 25, v] w (BulkOk k 25 l w) :=
  bulk_ok k 25 l v w (by decide) (by decide) (by omega) (by omega) h
theorem does_any (w0 w : World) (db : Nat) (k : Bool) (m : List En) (v : Value) (F : Nat → Prop) (o : Int) (x : En) (N : Int) (h : Ply w0 db k m v F w) : Calls Try.prog 12 #[.pointer (some ⟨db, 0, none⟩), v, actV o x N, .int .i64 25] w (DoesOk w0 db k) := by
  have : max 0 o % 8 = 0 ∨ max 0 o % 8 = 1 ∨ max 0 o % 8 = 2 ∨ max 0 o % 8 = 3 ∨ max 0 o % 8 = 4 ∨ max 0 o % 8 = 5 ∨ max 0 o % 8 = 6 ∨ max 0 o % 8 = 7 := by omega
  rcases this with c | c | c | c | c | c | c | c
  · by_cases hf : m.length = 25
    · exact doesFull w0 w db k m v F o x N h hf (.inl c)
    · exact doesPush w0 w db k m v F o x N h (by have := h.len; omega) (.inl c)
  · by_cases hf : m.length = 25
    · exact doesFull w0 w db k m v F o x N h hf (.inr c)
    · exact doesPush w0 w db k m v F o x N h (by have := h.len; omega) (.inr c)
  · exact doesPopMin w0 w db k m v F o x N h c
  · exact doesPopMax w0 w db k m v F o x N h c
  · exact doesMin w0 w db k m v F o x N h c
  · exact doesMax w0 w db k m v F o x N h c
  · exact doesEvict w0 w db k m v F o x N h c
  · exact doesDrop w0 w db k m v F o x N h c
def planDp (u8 u9 : Value) (x : En) : Plan := { ks := [0, 0, 0, 2, 2, 0, 0, 2, 2, 2], ds := [29, 30, 31, 32, 33, 34, 35, 36, 8, 9], vs := [u8, .agg #[.int .i64 x.b, .int .i64 x.d, .int .i64 x.s, .int .i64 x.i], .agg #[.int .i64 x.b, .int .i64 x.d, .int .i64 x.s, .int .i64 x.i], undef, undef, u9, .agg #[.int .i64 x.b, .int .i64 x.d, .int .i64 x.s, .int .i64 x.i], undef, undef, undef], ss := [0, 0, 0, 0, 0, 0, 0, 0, 0, 0], zs := [#[], #[], #[], #[], #[], #[], #[], #[], #[], #[]], fs := [#[], #[], #[], #[], #[], #[], #[], #[], #[], #[]], ts := [0, 0, 0, 0, 0, 0, 0, 0, 0, 0] }
set_option maxHeartbeats 40000000 in
theorem walk (kind : Bool) (a : Option Addr) (len cap : Nat) (z : Nat → En) (a2 : Option Addr) (len2 cap2 : Nat) (y : Nat → Int × En × Int) (w : World) (h : IsEnts w a len cap z) (h2 : IsActs w a2 len2 cap2 y) :
    Calls Try.prog 3 #[.bool kind, .slice a len cap, .slice a2 len2 cap2] w fun e w' => e = .returned (.bool true) ∧ Below w.heap.size w w' := by
  obtain ⟨hE, hlc, hcm⟩ := h
  obtain ⟨hA, hlc2, hcm2⟩ := h2
  obtain ⟨i0, hi0, hz0, hz1, hz2⟩ := info_parts' infoE
  unfold maxLen at hcm hcm2
  obtain ⟨L, eL⟩ : ∃ L, min len 20 = L := ⟨_, rfl⟩
  obtain ⟨hL, hL1, hL2⟩ : (min (len : Int) 20).toNat = L ∧ L ≤ len ∧ L ≤ 20 := ⟨by omega, by omega, by omega⟩
  clear eL
  obtain ⟨M, eM⟩ : ∃ M, min len2 50 = M := ⟨_, rfl⟩
  obtain ⟨hM, hM1, hM2⟩ : (min (len2 : Int) 50).toNat = M ∧ M ≤ len2 ∧ M ≤ 50 := ⟨by omega, by omega, by omega⟩
  clear eM
  have hE := Lib.hid (hE.less hL1)
  have hA := Lib.hid (hA.less hM1)
  have one4 : ∀ (x : En), ∀ u ∈ encE x, u.oneCell' = true := by
    intro x u hu; simp [encE] at hu; rcases hu with rfl | rfl | rfl | rfl <;> rfl
  go_enter Try.func3, Try.ntmps3
  go_upto_if 17 with (fail)
  go_cut [7] from 17 to 17 (fun s wc => s = .int .i64 (kN kind) ∧ w = wc)
  case first =>
    cases kind
    all_goals
      go_wp2
      go_meet
      exact ⟨rfl, rfl⟩
  case rest =>
    obtain ⟨rfl, rfl⟩ := hcut
    obtain ⟨kk, hkk⟩ : ∃ kk, kN kind = kk := ⟨_, rfl⟩
    have HKK := Lib.hid hkk
    rw [hkk]
    clear hkk
    go_wp2
    go_loopw [8, 9, 25] (fun va vd i wr => ∃ j : Nat, j ≤ L ∧ i = .int .i64 (j : Int) ∧ wr.ownsRow w.heap.size 32 4 va j (flatE (ls z j)) ∧ DocL wr vd (srt (ls z j)) ∧ Below w.heap.size w wr) (fun _ _ i _ => L - (intOf i).toNat)
    case atStart => exact ⟨0, by omega, rfl, World.ownsRow_nil _ _ _ _, by rw [ls_zero, show srt [] = [] from List.eq_nil_of_length_eq_zero (by rw [srt_length]; rfl)]; exact DocL.nil w, Below.refl _ _⟩
    case round =>
      obtain ⟨j, hj, rfl, hown, hdoc, hbe⟩ := hrel
      by_cases hlt : j < L
      · obtain ⟨ab, off, rfl, hb, hc⟩ := (hE.out.below hbe).at_ (by omega)
        obtain ⟨c0, c1, c2, c3⟩ := hc j hlt
        obtain ⟨x, hx⟩ : ∃ x, z j = x := ⟨_, rfl⟩
        rw [hx] at c0 c1 c2 c3
        have c01 : (0 : Int) ≤ (j : Int) := by omega
        have c02 : (j : Int) < (L : Int) := by omega
        have B1 : Below wr.heap.size wr (wr.alloc (.cells #[.int .i64 x.b, .int .i64 x.d, .int .i64 x.s, .int .i64 x.i] 28)).drew := ((Below.refl _ _).alloc (Nat.le_refl _) _).drew
        have HXL := Lib.hid (show ls z (j + 1) = ls z j ++ [x] by rw [ls_succ, hx])
        have PL0 := Lib.hid fun (t : Nat → Value) => (Pl.mk (w := w) (j := j) (xb := wr.heap.size) (x := x) (l := ls z j) (ml := srt (ls z j)) (va := u8) (vd := u9) (e := fun _ => false) (t := t) (hbe.trans (B1.mono hbe.size)) (show (wr.alloc (.cells #[.int .i64 x.b, .int .i64 x.d, .int .i64 x.s, .int .i64 x.i] 28)).drew.heap[wr.heap.size]? = _ from heap_alloc_new wr (.cells #[.int .i64 x.b, .int .i64 x.d, .int .i64 x.s, .int .i64 x.i] 28)) (fun q => by have := (hown.lt _ q).2; omega) (fun _ => own_kept hown B1) (fun k => by cases k) (fun _ => hdoc.next B1) (fun k => by cases k) (fun k => by cases k) (fun k => by cases k))
        have HIS := Lib.hid (ins_srt x (srt_srt (ls z j)))
        have HSL : Hid ((srt (ls z j)).length ≤ 100) := Lib.hid (by rw [srt_length, ls_length]; omega)
        have HIL := Lib.hid (insE_length x (srt (ls z j)))
        have OX := of_any x
        unfold entV at OX
        clear hc hx hown hdoc hbe B1
        go_wp2
        obtain ⟨xb, hxb⟩ : ∃ q, wr.heap.size = q := ⟨_, rfl⟩
        rw [hxb] at PL0 ⊢
        obtain ⟨wq, hwq⟩ : ∃ q, (wr.alloc (.cells #[.int .i64 x.b, .int .i64 x.d, .int .i64 x.s, .int .i64 x.i] 28)) = q := ⟨_, rfl⟩
        rw [hwq] at PL0 ⊢
        clear hwq hxb hb c0 c1 c2 c3
        have ok : (planDp u8 u9 x).ok = true := rfl
        refine region_inv (Inv := fun lq_ aq_ wr => ∃ (e : Nat → Bool) (t : Nat → Value), lq_ = #[e 0, e 1, e 2, e 3, e 4, e 5, e 6, e 7, e 8, e 9] ∧ aq_ = ⟨#[.bool kind, .slice (some ⟨ab, off, none⟩) L cap, .slice a2 len2 cap2, undef, undef, undef, .bool false, .int .i64 kk, t 8, t 9, undef, .pointer (some ⟨xb, 0, none⟩), undef, undef, undef, undef, undef, u17, .slice (some ⟨ab, off, none⟩) len cap, .slice (some ⟨ab, off, none⟩) len cap, .int .i64 (len : Int), .int .i64 (min (len : Int) 20), .slice (some ⟨ab, off, none⟩) L cap, .slice (some ⟨ab, off, none⟩) L cap, .int .i64 (L : Int), .int .i64 (j : Int), .bool true, .pointer (some ⟨ab, off + j * 4, none⟩), .agg #[.int .i64 x.b, .int .i64 x.d, .int .i64 x.s, .int .i64 x.i], t 29, t 30, t 31, t 32, t 33, t 34, t 35, t 36, u37, undef, undef, undef, undef, undef, undef, undef, undef, undef, undef, undef, undef, undef, undef, undef, undef, undef, undef, undef, undef, undef, undef, undef, undef, undef, undef, undef, undef, undef, undef, undef, undef, undef, undef, undef, undef, undef, undef, undef, undef, undef, undef, undef, undef, undef, undef, undef, undef, undef, undef, undef, undef, undef, undef, undef, undef, undef, undef, undef, undef, undef], []⟩ ∧ Vals (planDp u8 u9 x) e t ∧ Pl w j xb x (ls z j) (srt (ls z j)) u8 u9 e t wr ∧ Late u8 e (t 8) 8 [0, 4] ∧ Late u9 e (t 9) 9 [5, 7] ∧ (e 8 = true → t 8 = t 33) ∧ (e 9 = true → t 9 = t 36)) (by kernel_rfl) ?step ?start ?done
        case start => exact ⟨fun _ => false, fun j => if j = 8 then u8 else if j = 9 then u9 else if j = 29 then u29 else if j = 30 then u30 else if j = 31 then u31 else if j = 32 then u32 else if j = 33 then u33 else if j = 34 then u34 else if j = 35 then u35 else if j = 36 then u36 else undef, rfl, rfl, Vals.start _ _, ⟨PL0.out _, Late.start _ _ _, Late.start _ _ _, (fun k => by cases k), (fun k => by cases k)⟩⟩
        case step =>
          rintro lq_ aq_ wr ⟨e, t, rfl, rfl, hs, hm⟩ q_ o ho hi ha
          match q_, ho, hi, ha with
          | 0, ho, hi, ha =>
            obtain rfl : _ = o := Option.some.inj ho
            have hi : e 0 = false := hi
            have T8 : t 8 = u8 := hm.2.1.get 0 (by decide) hi
            have H8 := Lib.hid T8
            refine wpOp_step (i := 0) rfl (fun K hK => ?_)
            have HK : Shut (∀ a w, _ → K a w) := hK
            clear hK ho
            have HS := Lib.hid hs
            have HM := Lib.hid hm
            have HI := Lib.hid hi
            clear hs ha hm hi
            go_simp
            exact HK.out _ _ ⟨upd e 0 true, upd (upd t 8 _) 29 _, rfl, rfl, by rw [upd_self H8.out]; exact HS.out.put ok (i := 0) rfl, ⟨HM.out.1.of rfl rfl rfl rfl rfl rfl, by have q_ := HM.out.2.1.mark (i := 0) (by decide); rw [H8.out] at q_; exact q_, HM.out.2.2.1.mark (i := 0) (by decide), (fun k => (H8.out.symm).trans (HM.out.2.2.2.1 k)), HM.out.2.2.2.2⟩⟩
          | 1, ho, hi, ha =>
            obtain rfl : _ = o := Option.some.inj ho
            have hi : e 1 = false := hi
            obtain ⟨q0, q1, q2, q3, _⟩ := cells4 hm.1.X
            refine wpOp_step (i := 1) rfl (fun K hK => ?_)
            have HK : Shut (∀ a w, _ → K a w) := hK
            clear hK ho
            have HS := Lib.hid hs
            have HM := Lib.hid hm
            have HI := Lib.hid hi
            clear hs ha hm hi
            go_simp
            exact HK.out _ _ ⟨upd e 1 true, upd t 30 _, rfl, rfl, by exact HS.out.put ok (i := 1) rfl, ⟨HM.out.1.of rfl rfl rfl rfl rfl rfl, HM.out.2.1.mark (i := 1) (by decide), HM.out.2.2.1.mark (i := 1) (by decide), HM.out.2.2.2.1, HM.out.2.2.2.2⟩⟩
          | 2, ho, hi, ha =>
            obtain rfl : _ = o := Option.some.inj ho
            have hi : e 2 = false := hi
            have T1 : t 30 = .agg #[.int .i64 x.b, .int .i64 x.d, .int .i64 x.s, .int .i64 x.i] := hs.val 1 rfl (ha { on := 1, ground := .data } (by simp) rfl)
            have H1 := Lib.hid T1
            refine wpOp_step (i := 2) rfl (fun K hK => ?_)
            have HK : Shut (∀ a w, _ → K a w) := hK
            clear hK ho
            have HS := Lib.hid hs
            have HM := Lib.hid hm
            have HI := Lib.hid hi
            clear hs ha hm hi
            go_simp
            (with_reducible refine (OX _).mono ?_)
            rintro e' w' ⟨rfl, mo⟩
            go_wp2_with fail
            exact HK.out _ _ ⟨upd e 2 true, upd (upd t 30 _) 31 _, rfl, rfl, by rw [upd_self H1.out]; exact HS.out.put ok (i := 2) rfl, ⟨(HM.out.1.next mo.below).of rfl rfl rfl rfl rfl rfl, HM.out.2.1.mark (i := 2) (by decide), HM.out.2.2.1.mark (i := 2) (by decide), HM.out.2.2.2.1, HM.out.2.2.2.2⟩⟩
          | 3, ho, hi, ha =>
            obtain rfl : _ = o := Option.some.inj ho
            have hi : e 3 = false := hi
            have T2 : t 31 = .agg #[.int .i64 x.b, .int .i64 x.d, .int .i64 x.s, .int .i64 x.i] := hs.val 2 rfl (ha { on := 2, ground := .data } (by simp) rfl)
            have H2 := Lib.hid T2
            have k4 : e 4 = false := by cases hh : e 4 with | false => rfl | true => exact absurd (hm.1.z4 hh) (by rw [hi]; simp)
            have K4 := Lib.hid k4
            clear k4
            refine wpOp_step (i := 3) rfl (fun K hK => ?_)
            have HK : Shut (∀ a w, _ → K a w) := hK
            clear hK ho
            have HS := Lib.hid hs
            have HM := Lib.hid hm
            have HI := Lib.hid hi
            clear hs ha hm hi
            go_simp
            exact HK.out _ _ ⟨upd e 3 true, upd (upd t 31 _) 32 _, rfl, rfl, by rw [upd_self H2.out]; exact HS.out.skip' (i := 3) rfl rfl, ⟨(HM.out.1.of (e' := e) (t' := upd t 31 (.agg #[.int .i64 x.b, .int .i64 x.d, .int .i64 x.s, .int .i64 x.i])) rfl rfl rfl rfl rfl rfl).made K4.out, HM.out.2.1.mark (i := 3) (by decide), HM.out.2.2.1.mark (i := 3) (by decide), HM.out.2.2.2.1, HM.out.2.2.2.2⟩⟩
          | 4, ho, hi, ha =>
            obtain rfl : _ = o := Option.some.inj ho
            have hi : e 4 = false := hi
            have d0 : e 0 = true := ha { on := 0, ground := .data } (by simp) rfl
            have d3 : e 3 = true := ha { on := 3, ground := .data } (by simp) rfl
            have TS : t 29 = u8 := hs.val 0 rfl d0
            obtain ⟨g, TX, hgb, hng⟩ := hm.1.S3 d3 hi
            have hA0 := hm.1.A0 hi
            have hbs := hm.1.be.size
            refine wpOp_step (i := 4) rfl (fun K hK => ?_)
            refine step_append_lies wr rfl (.tmp 29) (.tmp 32) 25 rfl w.heap.size 32 i0 (.agg #[.int .i64 0, .int .i64 0, .int .i64 0, .int .i64 0]) 4 32 Try.underlying25 hi0 hz0 hz1 hz2 rfl (by decide) u8 j (flatE (ls z j)) TS hA0 ⟨g, 0, none⟩ 1 1 (encE x) TX rfl (World.news_of_block hgb) (one4 x) (by omega) (by unfold maxLen; omega) (by omega) hbs wr.heap.size rfl ?_
            intro g' c' w' hown hgrow hat _
            exact hK _ _ ⟨upd e 4 true, upd t 33 _, rfl, rfl, hs.skip' (i := 4) rfl rfl, hm.1.app hi d3 hown hgrow, hm.2.1.mark (i := 4) (by decide), hm.2.2.1.mark (i := 4) (by decide), (fun k => absurd (hm.2.1.b k 4 (by decide)) (by rw [hi]; simp)), hm.2.2.2.2⟩
          | 5, ho, hi, ha =>
            obtain rfl : _ = o := Option.some.inj ho
            have hi : e 5 = false := hi
            have T9 : t 9 = u9 := hm.2.2.1.get 5 (by decide) hi
            have H9 := Lib.hid T9
            refine wpOp_step (i := 5) rfl (fun K hK => ?_)
            have HK : Shut (∀ a w, _ → K a w) := hK
            clear hK ho
            have HS := Lib.hid hs
            have HM := Lib.hid hm
            have HI := Lib.hid hi
            clear hs ha hm hi
            go_simp
            exact HK.out _ _ ⟨upd e 5 true, upd (upd t 9 _) 34 _, rfl, rfl, by rw [upd_self H9.out]; exact HS.out.put ok (i := 5) rfl, ⟨HM.out.1.of rfl rfl rfl rfl rfl rfl, HM.out.2.1.mark (i := 5) (by decide), by have q_ := HM.out.2.2.1.mark (i := 5) (by decide); rw [H9.out] at q_; exact q_, HM.out.2.2.2.1, fun k => (H9.out.symm).trans (HM.out.2.2.2.2 k)⟩⟩
          | 6, ho, hi, ha =>
            obtain rfl : _ = o := Option.some.inj ho
            have hi : e 6 = false := hi
            obtain ⟨q0, q1, q2, q3, _⟩ := cells4 hm.1.X
            refine wpOp_step (i := 6) rfl (fun K hK => ?_)
            have HK : Shut (∀ a w, _ → K a w) := hK
            clear hK ho
            have HS := Lib.hid hs
            have HM := Lib.hid hm
            have HI := Lib.hid hi
            clear hs ha hm hi
            go_simp
            exact HK.out _ _ ⟨upd e 6 true, upd t 35 _, rfl, rfl, by exact HS.out.put ok (i := 6) rfl, ⟨HM.out.1.of rfl rfl rfl rfl rfl rfl, HM.out.2.1.mark (i := 6) (by decide), HM.out.2.2.1.mark (i := 6) (by decide), HM.out.2.2.2.1, HM.out.2.2.2.2⟩⟩
          | 7, ho, hi, ha =>
            obtain rfl : _ = o := Option.some.inj ho
            have hi : e 7 = false := hi
            have T5 : t 34 = u9 := hs.val 5 rfl (ha { on := 5, ground := .data } (by simp) rfl)
            have H5 := Lib.hid T5
            have T6 : t 35 = .agg #[.int .i64 x.b, .int .i64 x.d, .int .i64 x.s, .int .i64 x.i] := hs.val 6 rfl (ha { on := 6, ground := .data } (by simp) rfl)
            have H6 := Lib.hid T6
            have RP := rpush_any x (srt (ls z j)) HSL.out u9 wr (hm.1.D0 hi)
            unfold IsPut entV at RP
            refine wpOp_step (i := 7) rfl (fun K hK => ?_)
            have HK : Shut (∀ a w, _ → K a w) := hK
            clear hK ho
            have HS := Lib.hid hs
            have HM := Lib.hid hm
            have HI := Lib.hid hi
            clear hs ha hm hi
            go_simp
            (with_reducible refine (RP).mono ?_)
            rintro e' w' ⟨v36, rfl, ho36, be36⟩
            go_wp2_with fail
            exact HK.out _ _ ⟨upd e 7 true, upd (upd (upd t 34 _) 35 _) 36 _, rfl, rfl, by rw [upd_self H5.out, upd_self H6.out]; exact HS.out.skip' (i := 7) rfl rfl, ⟨(HM.out.1.of (e' := e) (t' := upd (upd t 34 u9) 35 (.agg #[.int .i64 x.b, .int .i64 x.d, .int .i64 x.s, .int .i64 x.i])) rfl rfl rfl rfl rfl rfl).put rfl ho36 be36, HM.out.2.1.mark (i := 7) (by decide), HM.out.2.2.1.mark (i := 7) (by decide), HM.out.2.2.2.1, (fun k => absurd (HM.out.2.2.1.b k 7 (by decide)) (by rw [HI.out]; simp))⟩⟩
          | 8, ho, hi, ha =>
            obtain rfl : _ = o := Option.some.inj ho
            have hi : e 8 = false := hi
            have A0 : Hid (∀ r ∈ [0, 4], e r = true) := Lib.hid (by have a0 : e 0 = true := ha { on := 0, ground := .phase } (by simp) rfl; have a4 : e 4 = true := ha { on := 4, ground := .data } (by simp) rfl; intro r hr_; simp at hr_; rcases hr_ with rfl | rfl <;> assumption)
            refine wpOp_step (i := 8) rfl (fun K hK => ?_)
            have HK : Shut (∀ a w, _ → K a w) := hK
            clear hK ho
            have HS := Lib.hid hs
            have HM := Lib.hid hm
            have HI := Lib.hid hi
            clear hs ha hm hi
            go_simp
            exact HK.out _ _ ⟨upd e 8 true, upd t 8 _, rfl, rfl, by exact HS.out.skip' (i := 8) rfl rfl, ⟨HM.out.1.of rfl rfl rfl rfl rfl rfl, HM.out.2.1.done A0.out _, HM.out.2.2.1.mark (i := 8) (by decide), (fun _ => rfl), HM.out.2.2.2.2⟩⟩
          | 9, ho, hi, ha =>
            obtain rfl : _ = o := Option.some.inj ho
            have hi : e 9 = false := hi
            have A5 : Hid (∀ r ∈ [5, 7], e r = true) := Lib.hid (by have a5 : e 5 = true := ha { on := 5, ground := .phase } (by simp) rfl; have a7 : e 7 = true := ha { on := 7, ground := .data } (by simp) rfl; intro r hr_; simp at hr_; rcases hr_ with rfl | rfl <;> assumption)
            refine wpOp_step (i := 9) rfl (fun K hK => ?_)
            have HK : Shut (∀ a w, _ → K a w) := hK
            clear hK ho
            have HS := Lib.hid hs
            have HM := Lib.hid hm
            have HI := Lib.hid hi
            clear hs ha hm hi
            go_simp
            exact HK.out _ _ ⟨upd e 9 true, upd t 9 _, rfl, rfl, by exact HS.out.skip' (i := 9) rfl rfl, ⟨HM.out.1.of rfl rfl rfl rfl rfl rfl, HM.out.2.1.mark (i := 9) (by decide), HM.out.2.2.1.done A5.out _, HM.out.2.2.2.1, (fun _ => rfl)⟩⟩
          | k + 10, ho, hi, ha => simp at ho
        case done =>
          rintro lq_ aq_ wr ⟨e, t, rfl, rfl, hs, hm⟩ hr
          have hd := ready_done hr rfl (by decide +kernel)
          have e4 : e 4 = true := hd 4 (by decide)
          have e7 : e 7 = true := hd 7 (by decide)
          have v8 := hm.2.2.2.1 (hd 8 (by decide))
          have v9 := hm.2.2.2.2 (hd 9 (by decide))
          have EA := hm.1.A1 e4
          have ED := hm.1.D1 e7
          rw [← v8, ← HXL.out] at EA
          rw [← v9, HIS.out, show srt (srt (ls z j) ++ [x]) = srt (ls z (j + 1)) from by rw [HXL.out]; exact srt_perm_eq ((srt_perm (ls z j)).append_right [x])] at ED
          have HEA := Lib.hid EA
          have HED := Lib.hid ED
          have HEB := Lib.hid hm.1.be
          clear EA ED hm hd hr hs v8 v9 e4 e7 ok
          generalize t 8 = t8, t 9 = t9, t 29 = t29, t 30 = t30, t 31 = t31, t 32 = t32, t 33 = t33, t 34 = t34, t 35 = t35, t 36 = t36 at *
          go_wp2
          go_roundw
          case rel => exact ⟨j + 1, by omega, by go_num, HEA.out, HED.out, HEB.out⟩
          case measure => simp [intOf]; omega
      · obtain rfl : j = L := by omega
        obtain ⟨p8, c8, rfl⟩ := own_slice hown
        have nl : ¬ ((j : Int) < (j : Int)) := by omega
        have C := bulk_pl kind (ls z j) (.slice p8 j c8) wr (by rw [ls_length]; omega) (lists_own (B := w.heap.size) (t := 32) (by rw [ls_length]; exact hown))
        rw [HKK.out] at C
        have HBE := Lib.hid hbe
        have HDO := Lib.hid hdoc
        have HSL : Hid ((srt (ls z j)).length ≤ 25) := Lib.hid (by rw [srt_length, ls_length]; omega)
        have HSS := Lib.hid (srt_srt (ls z j))
        unfold BulkOk at C
        generalize srt (ls z j) = m at *
        clear hown hdoc hbe
        go_wp2_with fail
        with_reducible refine C.mono ?_
        rintro e w1 ⟨db, rfl, hd, be1⟩
        have PL : Hid (Ply w db kind m u9 (fun b => wr.heap.size ≤ b ∧ b < w1.heap.size) w1) :=
          Lib.hid ⟨hd, HDO.out.next be1, fun h0 q hq f => by have := HDO.out.lt h0 q hq; omega, fun b f => Nat.le_trans HBE.out.size f.1, HBE.out.trans (be1.mono HBE.out.size), HSS.out, HSL.out⟩
        obtain ⟨F, hF⟩ : ∃ F : Nat → Prop, F = fun b => wr.heap.size ≤ b ∧ b < w1.heap.size := ⟨_, rfl⟩
        rw [← hF] at PL
        clear hF hd be1 C HBE HDO HSL HSS
        go_wp2_with fail
        with_reducible refine (wakes_any _).mono ?_
        rintro e w2 ⟨rfl, be2⟩
        have PL2 := PL.out.next be2
        obtain ⟨hb, vv, ll, hda, _⟩ := PL2.de.at_
        have KD := kind_any w2 db kind hb vv ll 25 hda
        rw [HKK.out] at KD
        have HP2 := Lib.hid PL2
        clear be2 PL PL2 hda
        go_wp2_with fail
        with_reducible refine KD.mono ?_
        rintro e w' ⟨rfl, rfl⟩
        clear KD
        go_wp2
        go_loopw [9, 66] (fun v i wx => ∃ (r : Nat) (m' : List En) (F' : Nat → Prop), r ≤ M ∧ i = .int .i64 (r : Int) ∧ Ply w db kind m' v F' wx) (fun _ i _ => M - (intOf i).toNat)
        case atStart => exact ⟨0, m, F, by omega, rfl, HP2.out⟩
        case round =>
          obtain ⟨r, m', F', hr, rfl, hply⟩ := hrel
          obtain ⟨wx, hwx⟩ : ∃ q, q = wr := ⟨wr, rfl⟩
          subst hwx
          by_cases hlt2 : r < M
          · obtain ⟨ab, off, rfl, hb2, hc⟩ := (hA.out.below hply.be).at_ (by omega)
            obtain ⟨c0, c1, c2, c3, c4, c5⟩ := hc r hlt2
            generalize (y r).1 = o at *
            generalize (y r).2.1 = x at *
            generalize (y r).2.2 = N at *
            have c01 : (0 : Int) ≤ (r : Int) := by omega
            have c02 : (r : Int) < (M : Int) := by omega
            have B1 : Below wx.heap.size wx (wx.alloc (.cells #[.int .i64 o, .int .i64 x.b, .int .i64 x.d, .int .i64 x.s, .int .i64 x.i, .int .i64 N] 43)) := (Below.refl _ _).alloc (Nat.le_refl _) _
            have DO := does_any w _ db kind m' _ F' o x N (hply.next B1)
            unfold actV DoesOk at DO
            clear B1 hply hc hb2
            go_wp2_with fail
            with_reducible refine DO.mono ?_
            rintro e w4 ⟨v4, m4, F4, rfl, hp4⟩
            obtain ⟨p4, c4', rfl⟩ := doc_slice hp4.dl
            have LN := hp4.de.len
            have RM := hp4.de.room (by decide) (by decide) (by have := hp4.len; omega)
            have hlen := hp4.len
            have HP4 := Lib.hid hp4
            obtain ⟨n4, hn4⟩ : ∃ n4, m4.length = n4 := ⟨_, rfl⟩
            have HN4 := Lib.hid hn4
            rw [hn4] at LN RM hlen ⊢
            clear hp4 DO c0 c1 c2 c3 c4 c5 hn4
            go_wp2_with fail
            with_reducible refine LN.mono ?_
            rintro e w' ⟨rfl, rfl⟩
            clear LN
            go_wp2_with fail
            with_reducible refine RM.mono ?_
            rintro e w5 ⟨rfl, be5⟩
            have P5 := HP4.out.next be5
            rw [HN4.out] at P5
            have HP5 := Lib.hid P5
            clear be5 RM P5
            go_wp2
            go_roundw
            case rel => exact ⟨r + 1, m4, F4, by omega, by go_num, HP5.out⟩
            case measure => simp [intOf]; omega
          · obtain rfl : r = M := by omega
            have nl2 : ¬ ((r : Int) < (r : Int)) := by omega
            have S := sortedD wx (by have := hply.len; omega) hply.de
            unfold SortedOk at S
            have HPL := Lib.hid hply
            clear hply
            go_wp2_with fail
            with_reducible refine S.mono ?_
            rintro e w5 ⟨v5, rfl, ho5, be5⟩
            have P5 := HPL.out.next be5
            have SM := same_any m' m'.length rfl (by have := P5.len; omega) wx.heap.size v5 _ w5 ho5 P5.dl
            have HB5 := Lib.hid P5.be
            clear be5 P5 ho5 S HPL
            go_wp2_with fail
            with_reducible refine SM.mono ?_
            rintro e w6 ⟨rfl, be6⟩
            have HB6 := Lib.hid (HB5.out.trans (be6.mono HB5.out.size))
            clear be6 SM HB5
            go_wp2
            go_ret
            exact ⟨rfl, HB6.out⟩
/-! ### the row -/
open Go.ChangeShapes Go.WideShapes Go.ChangeAt
set_option maxRecDepth 100000 in
theorem lifted (os : Os) (started : os.Started) (H : Type) (enc : TypeId × Value → H) :
    ReturnsInHanded {} Try.checked os 3 .any (Rows.deheapPlaysSpec.pre6 enc Try.prog Try.f3 Rows.deheapPlaysRow.domain false) (Rows.deheapPlaysSpec.post enc Try.prog Try.f3 false true false false) := by
  refine returnsInHanded_of_change (C := Try.checked) own started (by kernel_rfl) Try.func3
    (ChangeSpec.witness6 (enc := enc) (C := Try.checked) false ⟨#[], #[.bool false, .slice none 0 0, .slice none 0 0], []⟩ 8 (by kernel_rfl) (by kernel_rfl) (by kernel_rfl) (by kernel_rfl)) ?_
  intro W base args ds gs before hval0 hW hcnd _
  have hval : ∀ (j : Nat) t v, Try.f3.params[j]? = some t → args[j]? = some v → Value.okWide Try.prog W .any base t v := hval0
  have hW' := hW
  obtain ⟨p, q, hA0, hV, rfl, hfz, hnd⟩ := hW
  have hA : DataW.TrodAll enc Try.prog W 0 (fun _ => true) true Try.f3.params.toList args.toList ds p := hA0
  rw [Try.params3] at hA hval
  obtain ⟨v0, vs0, d0, ds0, p0, q0, hargs, rfl, rfl, h0, r0⟩ := trodAll_cons hA
  obtain ⟨v1, vs1, d1, ds1, p1, q1, rfl, rfl, rfl, h1, r1⟩ := trodAll_cons r0
  obtain ⟨v2, vs2, d2, ds2, p2, q2, rfl, rfl, rfl, h2, r2⟩ := trodAll_cons r1
  obtain ⟨rfl, rfl, rfl⟩ := trodAll_nil r2
  obtain rfl : args = #[v0, v1, v2] := by cases args; simp_all
  obtain ⟨rfl, rfl⟩ := trodVars_none hV
  have k0 := h0
  have lt0 : ∀ x ∈ p0, x.block < W.heap.size := by obtain ⟨m, hm⟩ := k0; exact DataW.trod_lt m _ _ _ hm
  obtain ⟨a0, rfl, _⟩ := open_bool Try.underlying4 (hval 0 4 v0 rfl rfl) h0
  have k1 := h1
  have lt1 : ∀ x ∈ p1, x.block < W.heap.size := by obtain ⟨m, hm⟩ := k1; exact DataW.trod_lt m _ _ _ hm
  obtain ⟨x1, l1, c1, zs1, w1, rfl⟩ := open_ents (hval 1 22 v1 rfl rfl) h1
  have k2 := h2
  have lt2 : ∀ x ∈ p2, x.block < W.heap.size := by obtain ⟨m, hm⟩ := k2; exact DataW.trod_lt m _ _ _ hm
  obtain ⟨x2, l2, c2, zs2, w2, rfl⟩ := open_acts (hval 2 23 v2 rfl rfl) h2
  clear hA0 hval0
  refine (walk a0 x1 l1 c1 zs1 x2 l2 c2 zs2 W w1 w2).mono fun e W' ⟨he, bel⟩ => ?_
  subst he
  exact ⟨_, rfl, _, _, _, [], _, [], hW', trodAll_mk1 (shut_bool Try.underlying4 _), (trodAll_cons_mk (Below.trod laidOut (by kernel_rfl) (of_decide_eq_true (by kernel_rfl)) k0 bel lt0) (trodAll_cons_mk (Below.trod laidOut (by kernel_rfl) (of_decide_eq_true (by kernel_rfl)) k1 bel lt1) (trodAll_cons_mk (Below.trod laidOut (by kernel_rfl) (of_decide_eq_true (by kernel_rfl)) k2 bel lt2) trodAll_mk0))), rfl, bel.frame _, fun h => by cases h⟩

theorem over : Rows.deheapPlaysRow.holds Try.pinned (OpenSpec.ofChange Rows.deheapPlaysSpec) :=
  OpenClaim.holds_of_wide 3 Try.f3 rfl rfl rfl rfl rfl rfl rfl ⟨rfl, rfl, rfl, rfl, rfl⟩ rfl rfl rfl rfl rfl (by kernel_rfl) Try.func3 (by kernel_rfl)
    (of_decide_eq_true (by kernel_rfl)) (by unfold Func.isWrapper; first | (rw [if_pos (by decide +kernel)]; kernel_rfl) | (rw [if_neg (by decide +kernel)]; exact ⟨rfl, rfl⟩))
    (fun os started H enc _ => lifted os started H enc)

end Go.Proofs.Ytiighhcilgjebaa.deheapPlays
namespace Go.Proofs.Ytiighhcilgjebaa
theorem deheapPlays_holds : Rows.DeheapPlaysSaid := deheapPlays.over
#print axioms deheapPlays_holds
end Go.Proofs.Ytiighhcilgjebaa
