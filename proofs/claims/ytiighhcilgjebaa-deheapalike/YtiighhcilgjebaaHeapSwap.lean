/-
  What swap does (layer 5): two entries of a row change places.
-/
import Derived.Test.YtiighhcilgjebaaHeapWalks
import Derived.Test.YtiighhcilgjebaaRegionKit2
namespace Go.Proofs.Ytiighhcilgjebaa
set_option maxRecDepth 100000
open Go.RowKit Go.Sort

def planSw (g n cap i k : Nat) (x y : En) : Plan := { ks := [0, 0, 0, 0, 0, 0, 0, 0, 0, 0, 0, 0, 0, 2, 0, 2], ds := [6, 7, 8, 9, 10, 11, 12, 13, 14, 15, 16, 17, 18, 0, 19, 0], vs := [.slice (some ⟨g, 0, none⟩) n cap, .int .i64 (i : Int), .slice (some ⟨g, 0, none⟩) n cap, .int .i64 (k : Int), .slice (some ⟨g, 0, none⟩) n cap, .int .i64 (k : Int), .pointer (some ⟨g, k * 4, none⟩), .agg #[.int .i64 y.b, .int .i64 y.d, .int .i64 y.s, .int .i64 y.i], .slice (some ⟨g, 0, none⟩) n cap, .int .i64 (i : Int), .pointer (some ⟨g, i * 4, none⟩), .agg #[.int .i64 x.b, .int .i64 x.d, .int .i64 x.s, .int .i64 x.i], .pointer (some ⟨g, i * 4, none⟩), undef, .pointer (some ⟨g, k * 4, none⟩), undef], ss := [0, 0, 0, 0, 0, 0, 0, 0, 0, 0, 0, 0, 0, 0, 0, 0], zs := [#[], #[], #[], #[], #[], #[], #[], #[], #[], #[], #[], #[], #[], #[], #[], #[]], fs := [#[], #[], #[], #[], #[], #[], #[], #[], #[], #[], #[], #[], #[], #[], #[], #[]], ts := [0, 0, 0, 0, 0, 0, 0, 0, 0, 0, 0, 0, 0, 0, 0, 0] }
set_option maxHeartbeats 4000000 in
theorem swap_any (l : List En) (B g cap i k : Nat) (hi : i < l.length) (hk : k < l.length) (w : World) (h : Row B g l.length cap l w) :
    Calls Try.prog 70 #[.slice (some ⟨g, 0, none⟩) l.length cap, .int .i64 (i : Int), .int .i64 (k : Int)] w fun e w' => e = .returned (.tuple #[]) ∧ Row B g l.length cap (swp l i k) w' ∧ w.grownBy w' (some g) := by
  have h1 := (own_list h).nth hi
  have h2 := (own_list h).nth hk
  have HP : Hid (∀ W, Row B g l.length cap l W → Row B g l.length cap (swp l i k) (((((((((W.setCell ⟨g, i * 4, none⟩ (.int .i64 (nth l k).b)).setCell ⟨g, i * 4 + 1, none⟩ (.int .i64 (nth l k).d)).setCell ⟨g, i * 4 + 2, none⟩ (.int .i64 (nth l k).s)).setCell ⟨g, i * 4 + 3, none⟩ (.int .i64 (nth l k).i)).setCell ⟨g, k * 4, none⟩ (.int .i64 (nth l i).b)).setCell ⟨g, k * 4 + 1, none⟩ (.int .i64 (nth l i).d)).setCell ⟨g, k * 4 + 2, none⟩ (.int .i64 (nth l i).s)).setCell ⟨g, k * 4 + 3, none⟩ (.int .i64 (nth l i).i)))) :=
    fun W hW => (hW.put hi (nth l k)).put (by simpa using hk) (nth l i)
  have hdr : Row B g l.length cap l w.drew := h.drew
  have HQ := Lib.hid ((hdr.put hi (nth l k)).facts (k := k) (by simpa using hk))
  clear hdr
  have HR := Lib.hid h
  have z0 := h.frozenAt (i * 4)
  have z1 := h.frozenAt (i * 4 + 1)
  have z2 := h.frozenAt (i * 4 + 2)
  have z3 := h.frozenAt (i * 4 + 3)
  have y0 := h.frozenAt (k * 4)
  have y1 := h.frozenAt (k * 4 + 1)
  have y2 := h.frozenAt (k * 4 + 2)
  have y3 := h.frozenAt (k * 4 + 3)
  have fz := (h.lt g rfl).2
  generalize nth l i = x at *
  generalize nth l k = y at *
  obtain ⟨a0, a1, a2, a3⟩ := h1
  obtain ⟨b0, b1, b2, b3⟩ := h2
  generalize l.length = n at *
  have c01 : (0 : Int) ≤ (i : Int) := by omega
  have c02 : (i : Int) < (n : Int) := by omega
  have c03 : (0 : Int) ≤ (k : Int) := by omega
  have c04 : (k : Int) < (n : Int) := by omega
  clear h
  go_enter Try.func70, Try.ntmps70
  go_wp2
  have ok : (planSw g n cap i k x y).ok = true := rfl
  refine region_inv (Inv := fun l a wr => ∃ (e : Nat → Bool) (t : Nat → Value), l = #[e 0, e 1, e 2, e 3, e 4, e 5, e 6, e 7, e 8, e 9, e 10, e 11, e 12, e 13, e 14, e 15] ∧ a = ⟨#[.slice (some ⟨g, 0, none⟩) n cap, .int .i64 (i : Int), .int .i64 (k : Int), undef, undef, undef, t 6, t 7, t 8, t 9, t 10, t 11, t 12, t 13, t 14, t 15, t 16, t 17, t 18, t 19], []⟩ ∧ Vals (planSw g n cap i k x y) e t ∧ MSw w.drew ((((w.drew.setCell ⟨g, i * 4, none⟩ (.int .i64 y.b)).setCell ⟨g, i * 4 + 1, none⟩ (.int .i64 y.d)).setCell ⟨g, i * 4 + 2, none⟩ (.int .i64 y.s)).setCell ⟨g, i * 4 + 3, none⟩ (.int .i64 y.i)) ((((((((w.drew.setCell ⟨g, i * 4, none⟩ (.int .i64 y.b)).setCell ⟨g, i * 4 + 1, none⟩ (.int .i64 y.d)).setCell ⟨g, i * 4 + 2, none⟩ (.int .i64 y.s)).setCell ⟨g, i * 4 + 3, none⟩ (.int .i64 y.i)).setCell ⟨g, k * 4, none⟩ (.int .i64 x.b)).setCell ⟨g, k * 4 + 1, none⟩ (.int .i64 x.d)).setCell ⟨g, k * 4 + 2, none⟩ (.int .i64 x.s)).setCell ⟨g, k * 4 + 3, none⟩ (.int .i64 x.i)) e wr) (by kernel_rfl) ?step ?start ?done
  case start => exact ⟨fun _ => false, fun _ => undef, rfl, rfl, Vals.start _ _, MSw.start _ _ _⟩
  case step =>
    rintro l a wr ⟨e, t, rfl, rfl, hs, hm⟩ q_ o ho hi ha
    match q_, ho, hi, ha with
    | 0, ho, hi, ha =>
      obtain rfl : _ = o := Option.some.inj ho
      have hi : e 0 = false := hi
      refine wpOp_step (i := 0) rfl (fun K hK => ?_)
      have HK : Shut (∀ a w, _ → K a w) := hK
      clear hK ho
      have HS := Lib.hid hs
      have HM := Lib.hid hm
      have HI := Lib.hid hi
      clear hs ha hm hi
      go_simp
      exact HK.out _ _ ⟨upd e 0 true, upd t 6 _, rfl, rfl, by exact HS.out.put ok (i := 0) rfl, HM.out.of rfl rfl rfl rfl⟩
    | 1, ho, hi, ha =>
      obtain rfl : _ = o := Option.some.inj ho
      have hi : e 1 = false := hi
      refine wpOp_step (i := 1) rfl (fun K hK => ?_)
      have HK : Shut (∀ a w, _ → K a w) := hK
      clear hK ho
      have HS := Lib.hid hs
      have HM := Lib.hid hm
      have HI := Lib.hid hi
      clear hs ha hm hi
      go_simp
      exact HK.out _ _ ⟨upd e 1 true, upd t 7 _, rfl, rfl, by exact HS.out.put ok (i := 1) rfl, HM.out.of rfl rfl rfl rfl⟩
    | 2, ho, hi, ha =>
      obtain rfl : _ = o := Option.some.inj ho
      have hi : e 2 = false := hi
      refine wpOp_step (i := 2) rfl (fun K hK => ?_)
      have HK : Shut (∀ a w, _ → K a w) := hK
      clear hK ho
      have HS := Lib.hid hs
      have HM := Lib.hid hm
      have HI := Lib.hid hi
      clear hs ha hm hi
      go_simp
      exact HK.out _ _ ⟨upd e 2 true, upd t 8 _, rfl, rfl, by exact HS.out.put ok (i := 2) rfl, HM.out.of rfl rfl rfl rfl⟩
    | 3, ho, hi, ha =>
      obtain rfl : _ = o := Option.some.inj ho
      have hi : e 3 = false := hi
      refine wpOp_step (i := 3) rfl (fun K hK => ?_)
      have HK : Shut (∀ a w, _ → K a w) := hK
      clear hK ho
      have HS := Lib.hid hs
      have HM := Lib.hid hm
      have HI := Lib.hid hi
      clear hs ha hm hi
      go_simp
      exact HK.out _ _ ⟨upd e 3 true, upd t 9 _, rfl, rfl, by exact HS.out.put ok (i := 3) rfl, HM.out.of rfl rfl rfl rfl⟩
    | 4, ho, hi, ha =>
      obtain rfl : _ = o := Option.some.inj ho
      have hi : e 4 = false := hi
      refine wpOp_step (i := 4) rfl (fun K hK => ?_)
      have HK : Shut (∀ a w, _ → K a w) := hK
      clear hK ho
      have HS := Lib.hid hs
      have HM := Lib.hid hm
      have HI := Lib.hid hi
      clear hs ha hm hi
      go_simp
      exact HK.out _ _ ⟨upd e 4 true, upd t 10 _, rfl, rfl, by exact HS.out.put ok (i := 4) rfl, HM.out.of rfl rfl rfl rfl⟩
    | 5, ho, hi, ha =>
      obtain rfl : _ = o := Option.some.inj ho
      have hi : e 5 = false := hi
      refine wpOp_step (i := 5) rfl (fun K hK => ?_)
      have HK : Shut (∀ a w, _ → K a w) := hK
      clear hK ho
      have HS := Lib.hid hs
      have HM := Lib.hid hm
      have HI := Lib.hid hi
      clear hs ha hm hi
      go_simp
      exact HK.out _ _ ⟨upd e 5 true, upd t 11 _, rfl, rfl, by exact HS.out.put ok (i := 5) rfl, HM.out.of rfl rfl rfl rfl⟩
    | 6, ho, hi, ha =>
      obtain rfl : _ = o := Option.some.inj ho
      have hi : e 6 = false := hi
      have T4 : t 10 = .slice (some ⟨g, 0, none⟩) n cap := hs.val 4 rfl (ha { on := 4, ground := .data } (by simp) rfl)
      have H4 := Lib.hid T4
      have T5 : t 11 = .int .i64 (k : Int) := hs.val 5 rfl (ha { on := 5, ground := .data } (by simp) rfl)
      have H5 := Lib.hid T5
      refine wpOp_step (i := 6) rfl (fun K hK => ?_)
      have HK : Shut (∀ a w, _ → K a w) := hK
      clear hK ho
      have HS := Lib.hid hs
      have HM := Lib.hid hm
      have HI := Lib.hid hi
      clear hs ha hm hi
      go_simp
      exact HK.out _ _ ⟨upd e 6 true, upd (upd (upd t 10 _) 11 _) 12 _, rfl, rfl, by rw [upd_self H4.out, upd_self H5.out]; exact HS.out.put ok (i := 6) rfl, HM.out.of rfl rfl rfl rfl⟩
    | 7, ho, hi, ha =>
      obtain rfl : _ = o := Option.some.inj ho
      have hi : e 7 = false := hi
      have T6 : t 12 = .pointer (some ⟨g, k * 4, none⟩) := hs.val 6 rfl (ha { on := 6, ground := .data } (by simp) rfl)
      have H6 := Lib.hid T6
      obtain rfl := hm.early (.inl hi)
      refine wpOp_step (i := 7) rfl (fun K hK => ?_)
      have HK : Shut (∀ a w, _ → K a w) := hK
      clear hK ho
      have HS := Lib.hid hs
      have HM := Lib.hid hm
      have HI := Lib.hid hi
      clear hs ha hm hi
      go_simp
      exact HK.out _ _ ⟨upd e 7 true, upd (upd t 12 _) 13 _, rfl, rfl, by rw [upd_self H6.out]; exact HS.out.put ok (i := 7) rfl, HM.out.set7⟩
    | 8, ho, hi, ha =>
      obtain rfl : _ = o := Option.some.inj ho
      have hi : e 8 = false := hi
      refine wpOp_step (i := 8) rfl (fun K hK => ?_)
      have HK : Shut (∀ a w, _ → K a w) := hK
      clear hK ho
      have HS := Lib.hid hs
      have HM := Lib.hid hm
      have HI := Lib.hid hi
      clear hs ha hm hi
      go_simp
      exact HK.out _ _ ⟨upd e 8 true, upd t 14 _, rfl, rfl, by exact HS.out.put ok (i := 8) rfl, HM.out.of rfl rfl rfl rfl⟩
    | 9, ho, hi, ha =>
      obtain rfl : _ = o := Option.some.inj ho
      have hi : e 9 = false := hi
      refine wpOp_step (i := 9) rfl (fun K hK => ?_)
      have HK : Shut (∀ a w, _ → K a w) := hK
      clear hK ho
      have HS := Lib.hid hs
      have HM := Lib.hid hm
      have HI := Lib.hid hi
      clear hs ha hm hi
      go_simp
      exact HK.out _ _ ⟨upd e 9 true, upd t 15 _, rfl, rfl, by exact HS.out.put ok (i := 9) rfl, HM.out.of rfl rfl rfl rfl⟩
    | 10, ho, hi, ha =>
      obtain rfl : _ = o := Option.some.inj ho
      have hi : e 10 = false := hi
      have T8 : t 14 = .slice (some ⟨g, 0, none⟩) n cap := hs.val 8 rfl (ha { on := 8, ground := .data } (by simp) rfl)
      have H8 := Lib.hid T8
      have T9 : t 15 = .int .i64 (i : Int) := hs.val 9 rfl (ha { on := 9, ground := .data } (by simp) rfl)
      have H9 := Lib.hid T9
      refine wpOp_step (i := 10) rfl (fun K hK => ?_)
      have HK : Shut (∀ a w, _ → K a w) := hK
      clear hK ho
      have HS := Lib.hid hs
      have HM := Lib.hid hm
      have HI := Lib.hid hi
      clear hs ha hm hi
      go_simp
      exact HK.out _ _ ⟨upd e 10 true, upd (upd (upd t 14 _) 15 _) 16 _, rfl, rfl, by rw [upd_self H8.out, upd_self H9.out]; exact HS.out.put ok (i := 10) rfl, HM.out.of rfl rfl rfl rfl⟩
    | 11, ho, hi, ha =>
      obtain rfl : _ = o := Option.some.inj ho
      have hi : e 11 = false := hi
      have T10 : t 16 = .pointer (some ⟨g, i * 4, none⟩) := hs.val 10 rfl (ha { on := 10, ground := .data } (by simp) rfl)
      have H10 := Lib.hid T10
      obtain rfl := hm.early (.inr hi)
      refine wpOp_step (i := 11) rfl (fun K hK => ?_)
      have HK : Shut (∀ a w, _ → K a w) := hK
      clear hK ho
      have HS := Lib.hid hs
      have HM := Lib.hid hm
      have HI := Lib.hid hi
      clear hs ha hm hi
      go_simp
      exact HK.out _ _ ⟨upd e 11 true, upd (upd t 16 _) 17 _, rfl, rfl, by rw [upd_self H10.out]; exact HS.out.put ok (i := 11) rfl, HM.out.set11⟩
    | 12, ho, hi, ha =>
      obtain rfl : _ = o := Option.some.inj ho
      have hi : e 12 = false := hi
      have T0 : t 6 = .slice (some ⟨g, 0, none⟩) n cap := hs.val 0 rfl (ha { on := 0, ground := .data } (by simp) rfl)
      have H0 := Lib.hid T0
      have T1 : t 7 = .int .i64 (i : Int) := hs.val 1 rfl (ha { on := 1, ground := .data } (by simp) rfl)
      have H1 := Lib.hid T1
      refine wpOp_step (i := 12) rfl (fun K hK => ?_)
      have HK : Shut (∀ a w, _ → K a w) := hK
      clear hK ho
      have HS := Lib.hid hs
      have HM := Lib.hid hm
      have HI := Lib.hid hi
      clear hs ha hm hi
      go_simp
      exact HK.out _ _ ⟨upd e 12 true, upd (upd (upd t 6 _) 7 _) 18 _, rfl, rfl, by rw [upd_self H0.out, upd_self H1.out]; exact HS.out.put ok (i := 12) rfl, HM.out.of rfl rfl rfl rfl⟩
    | 13, ho, hi, ha =>
      obtain rfl : _ = o := Option.some.inj ho
      have hi : e 13 = false := hi
      have T12 : t 18 = .pointer (some ⟨g, i * 4, none⟩) := hs.val 12 rfl (ha { on := 12, ground := .data } (by simp) rfl)
      have H12 := Lib.hid T12
      have T7 : t 13 = .agg #[.int .i64 y.b, .int .i64 y.d, .int .i64 y.s, .int .i64 y.i] := hs.val 7 rfl (ha { on := 7, ground := .data } (by simp) rfl)
      have H7 := Lib.hid T7
      obtain rfl := hm.first hi
      have e7 := Lib.hid (ha { on := 7, ground := .data } (by simp) rfl)
      have e11 := Lib.hid (ha { on := 11, ground := .phase } (by simp) rfl)
      refine wpOp_step (i := 13) rfl (fun K hK => ?_)
      have HK : Shut (∀ a w, _ → K a w) := hK
      clear hK ho
      have HS := Lib.hid hs
      have HM := Lib.hid hm
      have HI := Lib.hid hi
      clear hs ha hm hi
      go_simp
      exact HK.out _ _ ⟨upd e 13 true, (upd (upd t 18 _) 13 _), rfl, rfl, by rw [upd_self H12.out, upd_self H7.out]; exact HS.out.skip (i := 13) rfl, HM.out.set13 HI.out e7.out e11.out⟩
    | 14, ho, hi, ha =>
      obtain rfl : _ = o := Option.some.inj ho
      have hi : e 14 = false := hi
      have T2 : t 8 = .slice (some ⟨g, 0, none⟩) n cap := hs.val 2 rfl (ha { on := 2, ground := .data } (by simp) rfl)
      have H2 := Lib.hid T2
      have T3 : t 9 = .int .i64 (k : Int) := hs.val 3 rfl (ha { on := 3, ground := .data } (by simp) rfl)
      have H3 := Lib.hid T3
      refine wpOp_step (i := 14) rfl (fun K hK => ?_)
      have HK : Shut (∀ a w, _ → K a w) := hK
      clear hK ho
      have HS := Lib.hid hs
      have HM := Lib.hid hm
      have HI := Lib.hid hi
      clear hs ha hm hi
      go_simp
      exact HK.out _ _ ⟨upd e 14 true, upd (upd (upd t 8 _) 9 _) 19 _, rfl, rfl, by rw [upd_self H2.out, upd_self H3.out]; exact HS.out.put ok (i := 14) rfl, HM.out.of rfl rfl rfl rfl⟩
    | 15, ho, hi, ha =>
      obtain rfl : _ = o := Option.some.inj ho
      have hi : e 15 = false := hi
      have T14 : t 19 = .pointer (some ⟨g, k * 4, none⟩) := hs.val 14 rfl (ha { on := 14, ground := .data } (by simp) rfl)
      have H14 := Lib.hid T14
      have T11 : t 17 = .agg #[.int .i64 x.b, .int .i64 x.d, .int .i64 x.s, .int .i64 x.i] := hs.val 11 rfl (ha { on := 11, ground := .data } (by simp) rfl)
      have H11 := Lib.hid T11
      have e13 : e 13 = true := ha { on := 13, ground := .chain } (by simp) rfl
      obtain rfl := hm.second e13 hi
      have E13 := Lib.hid e13
      clear e13
      obtain ⟨z, q0, q1, q2, q3, p0, p1, p2, p3⟩ := HQ.out
      generalize ((((w.drew.setCell ⟨g, i * 4, none⟩ (.int .i64 y.b)).setCell ⟨g, i * 4 + 1, none⟩ (.int .i64 y.d)).setCell ⟨g, i * 4 + 2, none⟩ (.int .i64 y.s)).setCell ⟨g, i * 4 + 3, none⟩ (.int .i64 y.i)) = u at *
      refine wpOp_step (i := 15) rfl (fun K hK => ?_)
      have HK : Shut (∀ a w, _ → K a w) := hK
      clear hK ho
      have HS := Lib.hid hs
      have HM := Lib.hid hm
      have HI := Lib.hid hi
      clear hs ha hm hi
      go_simp
      exact HK.out _ _ ⟨upd e 15 true, (upd (upd t 19 _) 17 _), rfl, rfl, by rw [upd_self H14.out, upd_self H11.out]; exact HS.out.skip (i := 15) rfl, HM.out.set15 E13.out⟩
    | k + 16, ho, hi, ha => simp at ho
  case done =>
    rintro l a wr ⟨e, t, rfl, rfl, hs, hm⟩ hr
    have hd := ready_done hr rfl (by decide +kernel)
    have e13 : e 13 = true := hd 13 (by decide)
    have e15 : e 15 = true := hd 15 (by decide)
    obtain rfl := hm.c e15
    clear hs hm hd hr e13 e15
    have R := Lib.hid (HP.out w.drew HR.out.drew)
    clear HP HR
    go_wp2
    go_end0
    exact ⟨rfl, R.out, grown_trans (grown_trans (grown_below (Below.refl _ _).drew) grown_set4) grown_set4⟩
end Go.Proofs.Ytiighhcilgjebaa
