/-
  What exchange and order do (layer 6): two entries of a row change places.
-/
import Derived.Test.YtiighhcilgjebaaIWalks
namespace Go.Proofs.Ytiighhcilgjebaa.I
set_option maxRecDepth 100000
open Go.RowKit Go.Sort

theorem rowNext {B g n cap : Nat} {l : List En} {w w' : World} (h : Row B g n cap l w) (b : Below w.heap.size w w') : Row B g n cap l w' :=
  h.kept (row := none) (grown_below b) (.inr (by simp [Value.ownBlock]))
def planEx (g n cap i k : Nat) (x y : En) : Plan := { ks := [0, 0, 0, 0, 0, 0, 0, 0, 0, 0, 0, 0, 0, 2, 0, 2], ds := [18, 19, 20, 21, 22, 23, 24, 25, 26, 27, 28, 29, 30, 0, 31, 0], vs := [.slice (some ⟨g, 0, none⟩) n cap, .int .i64 (i : Int), .slice (some ⟨g, 0, none⟩) n cap, .int .i64 (k : Int), .slice (some ⟨g, 0, none⟩) n cap, .int .i64 (k : Int), .pointer (some ⟨g, k * 4, none⟩), .agg #[.int .i64 y.b, .int .i64 y.d, .int .i64 y.s, .int .i64 y.i], .slice (some ⟨g, 0, none⟩) n cap, .int .i64 (i : Int), .pointer (some ⟨g, i * 4, none⟩), .agg #[.int .i64 x.b, .int .i64 x.d, .int .i64 x.s, .int .i64 x.i], .pointer (some ⟨g, i * 4, none⟩), undef, .pointer (some ⟨g, k * 4, none⟩), undef], ss := [0, 0, 0, 0, 0, 0, 0, 0, 0, 0, 0, 0, 0, 0, 0, 0], zs := [#[], #[], #[], #[], #[], #[], #[], #[], #[], #[], #[], #[], #[], #[], #[], #[]], fs := [#[], #[], #[], #[], #[], #[], #[], #[], #[], #[], #[], #[], #[], #[], #[], #[]], ts := [0, 0, 0, 0, 0, 0, 0, 0, 0, 0, 0, 0, 0, 0, 0, 0] }
set_option maxHeartbeats 4000000 in
theorem exchange_any (l : List En) (B g cap kk bb : Nat) (up : Bool) (hn : l.length ≤ 1000) (hk0 : 2 * kk < l.length) (hb0 : 2 * bb < l.length) (w : World) (h : Row B g l.length cap l w) :
    Calls Try.prog 67 #[.slice (some ⟨g, 0, none⟩) l.length cap, .int .i64 (kk : Int), .int .i64 (bb : Int), .bool (!up)] w fun e w' => e = .returned (.tuple #[]) ∧ Row B g l.length cap (exc l up kk bb) w' ∧ w.grownBy w' (some g) := by
  have P1 := fun (x : Nat) (hx : x ≤ 1000) w => place_any (some ⟨g, 0, none⟩) l.length cap x up (by omega) (by omega) (by omega) w
  have P := P1 kk (by omega)
  have P2 := P1 bb (by omega)
  have hi := pl_lt up hk0
  have hk := pl_lt up hb0
  unfold exc
  generalize pl l.length up kk = i at *
  generalize pl l.length up bb = k at *
  generalize hu : (!up) = hh at *
  clear hu P1
  have h1 := (own_list h).nth hi
  have h2 := (own_list h).nth hk
  have HP : Hid (∀ W, Row B g l.length cap l W → Row B g l.length cap (swp l i k) (((((((((W.setCell ⟨g, i * 4, none⟩ (.int .i64 (nth l k).b)).setCell ⟨g, i * 4 + 1, none⟩ (.int .i64 (nth l k).d)).setCell ⟨g, i * 4 + 2, none⟩ (.int .i64 (nth l k).s)).setCell ⟨g, i * 4 + 3, none⟩ (.int .i64 (nth l k).i)).setCell ⟨g, k * 4, none⟩ (.int .i64 (nth l i).b)).setCell ⟨g, k * 4 + 1, none⟩ (.int .i64 (nth l i).d)).setCell ⟨g, k * 4 + 2, none⟩ (.int .i64 (nth l i).s)).setCell ⟨g, k * 4 + 3, none⟩ (.int .i64 (nth l i).i)))) :=
    fun W hW => (hW.put hi (nth l k)).put (by simpa using hk) (nth l i)
  have hdr : Row B g l.length cap l w.drew := h.drew
  have HQ := Lib.hid ((hdr.put hi (nth l k)).facts (k := k) (by simpa using hk))
  clear hdr
  have HR := Lib.hid h
  have z0 := h.frozenAt (i * 4)
  have z1 := h.frozenAt (i * 4 + 1)
  have z2 := h.frozenAt (i * 4 + 2)
  have z3 := h.frozenAt (i * 4 + 3)
  have y0 := h.frozenAt (k * 4)
  have y1 := h.frozenAt (k * 4 + 1)
  have y2 := h.frozenAt (k * 4 + 2)
  have y3 := h.frozenAt (k * 4 + 3)
  have fz := (h.lt g rfl).2
  generalize nth l i = x at *
  generalize nth l k = y at *
  obtain ⟨a0, a1, a2, a3⟩ := h1
  obtain ⟨b0, b1, b2, b3⟩ := h2
  generalize l.length = n at *
  have c01 : (0 : Int) ≤ (i : Int) := by omega
  have c02 : (i : Int) < (n : Int) := by omega
  have c03 : (0 : Int) ≤ (k : Int) := by omega
  have c04 : (k : Int) < (n : Int) := by omega
  clear h
  go_enter Try.func67, Try.ntmps67
  go_wp2_with (first | (go_at_call 79; (with_reducible refine (P _).mono ?_); rintro e w' ⟨rfl, rfl⟩) | (go_at_call 79; (with_reducible refine (P2 _).mono ?_); rintro e w' ⟨rfl, rfl⟩))
  have ok : (planEx g n cap i k x y).ok = true := rfl
  refine region_inv (Inv := fun lq_ aq_ wr => ∃ (e : Nat → Bool) (t : Nat → Value), lq_ = #[e 0, e 1, e 2, e 3, e 4, e 5, e 6, e 7, e 8, e 9, e 10, e 11, e 12, e 13, e 14, e 15] ∧ aq_ = ⟨#[.slice (some ⟨g, 0, none⟩) n cap, .int .i64 (kk : Int), .int .i64 (bb : Int), .bool hh, undef, undef, undef, undef, .int .i64 (i : Int), .int .i64 (k : Int), .slice (some ⟨g, 0, none⟩) n cap, .int .i64 (kk : Int), .bool hh, .int .i64 (i : Int), .slice (some ⟨g, 0, none⟩) n cap, .int .i64 (bb : Int), .bool hh, .int .i64 (k : Int), t 18, t 19, t 20, t 21, t 22, t 23, t 24, t 25, t 26, t 27, t 28, t 29, t 30, t 31], []⟩ ∧ Vals (planEx g n cap i k x y) e t ∧ MSw w.drew ((((w.drew.setCell ⟨g, i * 4, none⟩ (.int .i64 y.b)).setCell ⟨g, i * 4 + 1, none⟩ (.int .i64 y.d)).setCell ⟨g, i * 4 + 2, none⟩ (.int .i64 y.s)).setCell ⟨g, i * 4 + 3, none⟩ (.int .i64 y.i)) ((((((((w.drew.setCell ⟨g, i * 4, none⟩ (.int .i64 y.b)).setCell ⟨g, i * 4 + 1, none⟩ (.int .i64 y.d)).setCell ⟨g, i * 4 + 2, none⟩ (.int .i64 y.s)).setCell ⟨g, i * 4 + 3, none⟩ (.int .i64 y.i)).setCell ⟨g, k * 4, none⟩ (.int .i64 x.b)).setCell ⟨g, k * 4 + 1, none⟩ (.int .i64 x.d)).setCell ⟨g, k * 4 + 2, none⟩ (.int .i64 x.s)).setCell ⟨g, k * 4 + 3, none⟩ (.int .i64 x.i)) e wr) (by kernel_rfl) ?step ?start ?done
  case start => exact ⟨fun _ => false, fun _ => undef, rfl, rfl, Vals.start _ _, MSw.start _ _ _⟩
  case step =>
    rintro lq_ aq_ wr ⟨e, t, rfl, rfl, hs, hm⟩ q_ o ho hi ha
    match q_, ho, hi, ha with
    | 0, ho, hi, ha =>
      obtain rfl : _ = o := Option.some.inj ho
      have hi : e 0 = false := hi
      refine wpOp_step (i := 0) rfl (fun K hK => ?_)
      have HK : Shut (∀ a w, _ → K a w) := hK
      clear hK ho
      have HS := Lib.hid hs
      have HM := Lib.hid hm
      have HI := Lib.hid hi
      clear hs ha hm hi
      go_simp
      exact HK.out _ _ ⟨upd e 0 true, upd t 18 _, rfl, rfl, by exact HS.out.put ok (i := 0) rfl, HM.out.of rfl rfl rfl rfl⟩
    | 1, ho, hi, ha =>
      obtain rfl : _ = o := Option.some.inj ho
      have hi : e 1 = false := hi
      refine wpOp_step (i := 1) rfl (fun K hK => ?_)
      have HK : Shut (∀ a w, _ → K a w) := hK
      clear hK ho
      have HS := Lib.hid hs
      have HM := Lib.hid hm
      have HI := Lib.hid hi
      clear hs ha hm hi
      go_simp
      exact HK.out _ _ ⟨upd e 1 true, upd t 19 _, rfl, rfl, by exact HS.out.put ok (i := 1) rfl, HM.out.of rfl rfl rfl rfl⟩
    | 2, ho, hi, ha =>
      obtain rfl : _ = o := Option.some.inj ho
      have hi : e 2 = false := hi
      refine wpOp_step (i := 2) rfl (fun K hK => ?_)
      have HK : Shut (∀ a w, _ → K a w) := hK
      clear hK ho
      have HS := Lib.hid hs
      have HM := Lib.hid hm
      have HI := Lib.hid hi
      clear hs ha hm hi
      go_simp
      exact HK.out _ _ ⟨upd e 2 true, upd t 20 _, rfl, rfl, by exact HS.out.put ok (i := 2) rfl, HM.out.of rfl rfl rfl rfl⟩
    | 3, ho, hi, ha =>
      obtain rfl : _ = o := Option.some.inj ho
      have hi : e 3 = false := hi
      refine wpOp_step (i := 3) rfl (fun K hK => ?_)
      have HK : Shut (∀ a w, _ → K a w) := hK
      clear hK ho
      have HS := Lib.hid hs
      have HM := Lib.hid hm
      have HI := Lib.hid hi
      clear hs ha hm hi
      go_simp
      exact HK.out _ _ ⟨upd e 3 true, upd t 21 _, rfl, rfl, by exact HS.out.put ok (i := 3) rfl, HM.out.of rfl rfl rfl rfl⟩
    | 4, ho, hi, ha =>
      obtain rfl : _ = o := Option.some.inj ho
      have hi : e 4 = false := hi
      refine wpOp_step (i := 4) rfl (fun K hK => ?_)
      have HK : Shut (∀ a w, _ → K a w) := hK
      clear hK ho
      have HS := Lib.hid hs
      have HM := Lib.hid hm
      have HI := Lib.hid hi
      clear hs ha hm hi
      go_simp
      exact HK.out _ _ ⟨upd e 4 true, upd t 22 _, rfl, rfl, by exact HS.out.put ok (i := 4) rfl, HM.out.of rfl rfl rfl rfl⟩
    | 5, ho, hi, ha =>
      obtain rfl : _ = o := Option.some.inj ho
      have hi : e 5 = false := hi
      refine wpOp_step (i := 5) rfl (fun K hK => ?_)
      have HK : Shut (∀ a w, _ → K a w) := hK
      clear hK ho
      have HS := Lib.hid hs
      have HM := Lib.hid hm
      have HI := Lib.hid hi
      clear hs ha hm hi
      go_simp
      exact HK.out _ _ ⟨upd e 5 true, upd t 23 _, rfl, rfl, by exact HS.out.put ok (i := 5) rfl, HM.out.of rfl rfl rfl rfl⟩
    | 6, ho, hi, ha =>
      obtain rfl : _ = o := Option.some.inj ho
      have hi : e 6 = false := hi
      have T4 : t 22 = .slice (some ⟨g, 0, none⟩) n cap := hs.val 4 rfl (ha { on := 4, ground := .data } (by simp) rfl)
      have H4 := Lib.hid T4
      have T5 : t 23 = .int .i64 (k : Int) := hs.val 5 rfl (ha { on := 5, ground := .data } (by simp) rfl)
      have H5 := Lib.hid T5
      refine wpOp_step (i := 6) rfl (fun K hK => ?_)
      have HK : Shut (∀ a w, _ → K a w) := hK
      clear hK ho
      have HS := Lib.hid hs
      have HM := Lib.hid hm
      have HI := Lib.hid hi
      clear hs ha hm hi
      go_simp
      exact HK.out _ _ ⟨upd e 6 true, upd (upd (upd t 22 _) 23 _) 24 _, rfl, rfl, by rw [upd_self H4.out, upd_self H5.out]; exact HS.out.put ok (i := 6) rfl, HM.out.of rfl rfl rfl rfl⟩
    | 7, ho, hi, ha =>
      obtain rfl : _ = o := Option.some.inj ho
      have hi : e 7 = false := hi
      have T6 : t 24 = .pointer (some ⟨g, k * 4, none⟩) := hs.val 6 rfl (ha { on := 6, ground := .data } (by simp) rfl)
      have H6 := Lib.hid T6
      obtain rfl := hm.early (.inl hi)
      refine wpOp_step (i := 7) rfl (fun K hK => ?_)
      have HK : Shut (∀ a w, _ → K a w) := hK
      clear hK ho
      have HS := Lib.hid hs
      have HM := Lib.hid hm
      have HI := Lib.hid hi
      clear hs ha hm hi
      go_simp
      exact HK.out _ _ ⟨upd e 7 true, upd (upd t 24 _) 25 _, rfl, rfl, by rw [upd_self H6.out]; exact HS.out.put ok (i := 7) rfl, HM.out.set7⟩
    | 8, ho, hi, ha =>
      obtain rfl : _ = o := Option.some.inj ho
      have hi : e 8 = false := hi
      refine wpOp_step (i := 8) rfl (fun K hK => ?_)
      have HK : Shut (∀ a w, _ → K a w) := hK
      clear hK ho
      have HS := Lib.hid hs
      have HM := Lib.hid hm
      have HI := Lib.hid hi
      clear hs ha hm hi
      go_simp
      exact HK.out _ _ ⟨upd e 8 true, upd t 26 _, rfl, rfl, by exact HS.out.put ok (i := 8) rfl, HM.out.of rfl rfl rfl rfl⟩
    | 9, ho, hi, ha =>
      obtain rfl : _ = o := Option.some.inj ho
      have hi : e 9 = false := hi
      refine wpOp_step (i := 9) rfl (fun K hK => ?_)
      have HK : Shut (∀ a w, _ → K a w) := hK
      clear hK ho
      have HS := Lib.hid hs
      have HM := Lib.hid hm
      have HI := Lib.hid hi
      clear hs ha hm hi
      go_simp
      exact HK.out _ _ ⟨upd e 9 true, upd t 27 _, rfl, rfl, by exact HS.out.put ok (i := 9) rfl, HM.out.of rfl rfl rfl rfl⟩
    | 10, ho, hi, ha =>
      obtain rfl : _ = o := Option.some.inj ho
      have hi : e 10 = false := hi
      have T8 : t 26 = .slice (some ⟨g, 0, none⟩) n cap := hs.val 8 rfl (ha { on := 8, ground := .data } (by simp) rfl)
      have H8 := Lib.hid T8
      have T9 : t 27 = .int .i64 (i : Int) := hs.val 9 rfl (ha { on := 9, ground := .data } (by simp) rfl)
      have H9 := Lib.hid T9
      refine wpOp_step (i := 10) rfl (fun K hK => ?_)
      have HK : Shut (∀ a w, _ → K a w) := hK
      clear hK ho
      have HS := Lib.hid hs
      have HM := Lib.hid hm
      have HI := Lib.hid hi
      clear hs ha hm hi
      go_simp
      exact HK.out _ _ ⟨upd e 10 true, upd (upd (upd t 26 _) 27 _) 28 _, rfl, rfl, by rw [upd_self H8.out, upd_self H9.out]; exact HS.out.put ok (i := 10) rfl, HM.out.of rfl rfl rfl rfl⟩
    | 11, ho, hi, ha =>
      obtain rfl : _ = o := Option.some.inj ho
      have hi : e 11 = false := hi
      have T10 : t 28 = .pointer (some ⟨g, i * 4, none⟩) := hs.val 10 rfl (ha { on := 10, ground := .data } (by simp) rfl)
      have H10 := Lib.hid T10
      obtain rfl := hm.early (.inr hi)
      refine wpOp_step (i := 11) rfl (fun K hK => ?_)
      have HK : Shut (∀ a w, _ → K a w) := hK
      clear hK ho
      have HS := Lib.hid hs
      have HM := Lib.hid hm
      have HI := Lib.hid hi
      clear hs ha hm hi
      go_simp
      exact HK.out _ _ ⟨upd e 11 true, upd (upd t 28 _) 29 _, rfl, rfl, by rw [upd_self H10.out]; exact HS.out.put ok (i := 11) rfl, HM.out.set11⟩
    | 12, ho, hi, ha =>
      obtain rfl : _ = o := Option.some.inj ho
      have hi : e 12 = false := hi
      have T0 : t 18 = .slice (some ⟨g, 0, none⟩) n cap := hs.val 0 rfl (ha { on := 0, ground := .data } (by simp) rfl)
      have H0 := Lib.hid T0
      have T1 : t 19 = .int .i64 (i : Int) := hs.val 1 rfl (ha { on := 1, ground := .data } (by simp) rfl)
      have H1 := Lib.hid T1
      refine wpOp_step (i := 12) rfl (fun K hK => ?_)
      have HK : Shut (∀ a w, _ → K a w) := hK
      clear hK ho
      have HS := Lib.hid hs
      have HM := Lib.hid hm
      have HI := Lib.hid hi
      clear hs ha hm hi
      go_simp
      exact HK.out _ _ ⟨upd e 12 true, upd (upd (upd t 18 _) 19 _) 30 _, rfl, rfl, by rw [upd_self H0.out, upd_self H1.out]; exact HS.out.put ok (i := 12) rfl, HM.out.of rfl rfl rfl rfl⟩
    | 13, ho, hi, ha =>
      obtain rfl : _ = o := Option.some.inj ho
      have hi : e 13 = false := hi
      have T12 : t 30 = .pointer (some ⟨g, i * 4, none⟩) := hs.val 12 rfl (ha { on := 12, ground := .data } (by simp) rfl)
      have H12 := Lib.hid T12
      have T7 : t 25 = .agg #[.int .i64 y.b, .int .i64 y.d, .int .i64 y.s, .int .i64 y.i] := hs.val 7 rfl (ha { on := 7, ground := .data } (by simp) rfl)
      have H7 := Lib.hid T7
      obtain rfl := hm.first hi
      have e7 := Lib.hid (ha { on := 7, ground := .data } (by simp) rfl)
      have e11 := Lib.hid (ha { on := 11, ground := .phase } (by simp) rfl)
      refine wpOp_step (i := 13) rfl (fun K hK => ?_)
      have HK : Shut (∀ a w, _ → K a w) := hK
      clear hK ho
      have HS := Lib.hid hs
      have HM := Lib.hid hm
      have HI := Lib.hid hi
      clear hs ha hm hi
      go_simp
      exact HK.out _ _ ⟨upd e 13 true, (upd (upd t 30 _) 25 _), rfl, rfl, by rw [upd_self H12.out, upd_self H7.out]; exact HS.out.skip (i := 13) rfl, HM.out.set13 HI.out e7.out e11.out⟩
    | 14, ho, hi, ha =>
      obtain rfl : _ = o := Option.some.inj ho
      have hi : e 14 = false := hi
      have T2 : t 20 = .slice (some ⟨g, 0, none⟩) n cap := hs.val 2 rfl (ha { on := 2, ground := .data } (by simp) rfl)
      have H2 := Lib.hid T2
      have T3 : t 21 = .int .i64 (k : Int) := hs.val 3 rfl (ha { on := 3, ground := .data } (by simp) rfl)
      have H3 := Lib.hid T3
      refine wpOp_step (i := 14) rfl (fun K hK => ?_)
      have HK : Shut (∀ a w, _ → K a w) := hK
      clear hK ho
      have HS := Lib.hid hs
      have HM := Lib.hid hm
      have HI := Lib.hid hi
      clear hs ha hm hi
      go_simp
      exact HK.out _ _ ⟨upd e 14 true, upd (upd (upd t 20 _) 21 _) 31 _, rfl, rfl, by rw [upd_self H2.out, upd_self H3.out]; exact HS.out.put ok (i := 14) rfl, HM.out.of rfl rfl rfl rfl⟩
    | 15, ho, hi, ha =>
      obtain rfl : _ = o := Option.some.inj ho
      have hi : e 15 = false := hi
      have T14 : t 31 = .pointer (some ⟨g, k * 4, none⟩) := hs.val 14 rfl (ha { on := 14, ground := .data } (by simp) rfl)
      have H14 := Lib.hid T14
      have T11 : t 29 = .agg #[.int .i64 x.b, .int .i64 x.d, .int .i64 x.s, .int .i64 x.i] := hs.val 11 rfl (ha { on := 11, ground := .data } (by simp) rfl)
      have H11 := Lib.hid T11
      have e13 : e 13 = true := ha { on := 13, ground := .chain } (by simp) rfl
      obtain rfl := hm.second e13 hi
      have E13 := Lib.hid e13
      clear e13
      obtain ⟨z, q0, q1, q2, q3, p0, p1, p2, p3⟩ := HQ.out
      generalize ((((w.drew.setCell ⟨g, i * 4, none⟩ (.int .i64 y.b)).setCell ⟨g, i * 4 + 1, none⟩ (.int .i64 y.d)).setCell ⟨g, i * 4 + 2, none⟩ (.int .i64 y.s)).setCell ⟨g, i * 4 + 3, none⟩ (.int .i64 y.i)) = u at *
      refine wpOp_step (i := 15) rfl (fun K hK => ?_)
      have HK : Shut (∀ a w, _ → K a w) := hK
      clear hK ho
      have HS := Lib.hid hs
      have HM := Lib.hid hm
      have HI := Lib.hid hi
      clear hs ha hm hi
      go_simp
      exact HK.out _ _ ⟨upd e 15 true, (upd (upd t 31 _) 29 _), rfl, rfl, by rw [upd_self H14.out, upd_self H11.out]; exact HS.out.skip (i := 15) rfl, HM.out.set15 E13.out⟩
    | k + 16, ho, hi, ha => simp at ho
  case done =>
    rintro lq_ aq_ wr ⟨e, t, rfl, rfl, hs, hm⟩ hr
    have hd := ready_done hr rfl (by decide +kernel)
    have e13 : e 13 = true := hd 13 (by decide)
    have e15 : e 15 = true := hd 15 (by decide)
    obtain rfl := hm.c e15
    clear hs hm hd hr e13 e15
    have R := Lib.hid (HP.out w.drew HR.out.drew)
    clear HP HR
    go_wp2
    go_end0
    exact ⟨rfl, R.out, grown_trans (grown_trans (grown_below (Below.refl _ _).drew) grown_set4) grown_set4⟩
def planTurn (g n cap i k : Nat) (x y : En) : Plan := { ks := [0, 0, 0, 0, 0, 0, 0, 0, 0, 0, 0, 0, 0, 0, 0, 2, 0, 2], ds := [24, 25, 26, 27, 28, 29, 30, 31, 32, 33, 34, 35, 36, 37, 38, 0, 39, 0], vs := [.slice (some ⟨g, 0, none⟩) n cap, .int .i64 (i : Int), .slice (some ⟨g, 0, none⟩) n cap, .int .i64 (i : Int), .int .i64 (k : Int), .slice (some ⟨g, 0, none⟩) n cap, .int .i64 (i : Int), .int .i64 (k : Int), .pointer (some ⟨g, k * 4, none⟩), .agg #[.int .i64 y.b, .int .i64 y.d, .int .i64 y.s, .int .i64 y.i], .slice (some ⟨g, 0, none⟩) n cap, .int .i64 (i : Int), .pointer (some ⟨g, i * 4, none⟩), .agg #[.int .i64 x.b, .int .i64 x.d, .int .i64 x.s, .int .i64 x.i], .pointer (some ⟨g, i * 4, none⟩), undef, .pointer (some ⟨g, k * 4, none⟩), undef], ss := [0, 0, 0, 0, 0, 0, 0, 0, 0, 0, 0, 0, 0, 0, 0, 0, 0, 0], zs := [#[], #[], #[], #[], #[], #[], #[], #[], #[], #[], #[], #[], #[], #[], #[], #[], #[], #[]], fs := [#[], #[], #[], #[], #[], #[], #[], #[], #[], #[], #[], #[], #[], #[], #[], #[], #[], #[]], ts := [0, 0, 0, 0, 0, 0, 0, 0, 0, 0, 0, 0, 0, 0, 0, 0, 0, 0] }
def planNo (g n cap i k : Nat) : Plan := { ks := [0, 0, 0, 0, 0, 0, 0, 0, 0, 0, 0, 0, 0, 0, 0, 0, 0], ds := [7, 8, 9, 10, 11, 12, 13, 14, 15, 16, 17, 18, 19, 20, 21, 22, 23], vs := [.int .i64 (i : Int), .int .i64 (k : Int), .slice (some ⟨g, 0, none⟩) n cap, .int .i64 (n : Int), .bool false, .bool false, undef, undef, undef, undef, undef, undef, undef, undef, undef, undef, .bool false], ss := [0, 0, 0, 0, 0, 0, 0, 0, 0, 0, 0, 0, 0, 0, 0, 0, 0], zs := [#[], #[], #[], #[], #[], #[], #[], #[], #[], #[], #[], #[], #[], #[], #[], #[], #[]], fs := [#[], #[], #[], #[], #[], #[], #[], #[], #[], #[], #[], #[], #[], #[], #[], #[], #[]], ts := [0, 0, 0, 0, 0, 0, 0, 0, 0, 0, 0, 0, 0, 0, 0, 0, 0] }
def planYes (g n cap i k : Nat) (x y : En) (r : Bool) : Plan := { ks := [0, 0, 0, 0, 0, 0, 0, 0, 0, 0, 0, 0, 0, 0, 0, 0, 0], ds := [7, 8, 9, 10, 11, 12, 13, 14, 15, 16, 17, 18, 19, 20, 21, 22, 23], vs := [.int .i64 (i : Int), .int .i64 (k : Int), .slice (some ⟨g, 0, none⟩) n cap, .int .i64 (n : Int), .bool true, .bool true, .slice (some ⟨g, 0, none⟩) n cap, .int .i64 (i : Int), .int .i64 (k : Int), .pointer (some ⟨g, k * 4, none⟩), .agg #[.int .i64 y.b, .int .i64 y.d, .int .i64 y.s, .int .i64 y.i], .slice (some ⟨g, 0, none⟩) n cap, .int .i64 (i : Int), .pointer (some ⟨g, i * 4, none⟩), .agg #[.int .i64 x.b, .int .i64 x.d, .int .i64 x.s, .int .i64 x.i], .bool r, .bool r], ss := [0, 0, 0, 0, 0, 0, 0, 0, 0, 0, 0, 0, 0, 0, 0, 0, 0], zs := [#[], #[], #[], #[], #[], #[], #[], #[], #[], #[], #[], #[], #[], #[], #[], #[], #[]], fs := [#[], #[], #[], #[], #[], #[], #[], #[], #[], #[], #[], #[], #[], #[], #[], #[], #[]], ts := [0, 0, 0, 0, 0, 0, 0, 0, 0, 0, 0, 0, 0, 0, 0, 0, 0] }
/-- What order leaves. -/
def Ordered (B g cap k : Nat) (l : List En) (w : World) (e : Ending) (w' : World) : Prop :=
  e = .returned (.tuple #[]) ∧ Row B g l.length cap (ord l k) w' ∧ w.grownBy w' (some g)
set_option maxHeartbeats 4000000 in
theorem order_any (l : List En) (B g cap kk : Nat) (hkk : kk ≤ 1000) (w : World) (h : Row B g l.length cap l w) :
    Calls Try.prog 65 #[.slice (some ⟨g, 0, none⟩) l.length cap, .int .i64 (kk : Int)] w (Ordered B g cap kk l w) := by
  obtain ⟨i, ei⟩ : ∃ i, 2 * kk = i := ⟨_, rfl⟩
  obtain ⟨k, ek⟩ : ∃ k, i + 1 = k := ⟨_, rfl⟩
  unfold Ordered ord
  rw [ei, ek]
  have ei' : 2 * (kk : Int) = (i : Int) := by omega
  have ek' : IntKind.i64.wrap ((i : Int) + 1) = (k : Int) := by rw [IntKind.wrap_i64]; omega
  by_cases hlt : k < l.length
  · have hi : i < l.length := by omega
    have RL := less_any (nth l k) (nth l i)
    unfold entV at RL
    have HH := Lib.hid h
    have hL := own_list h
    have HX : Hid (IBox g i (nth l i) w) := ⟨(hL.nth hi).1, (hL.nth hi).2.1, (hL.nth hi).2.2.1, (hL.nth hi).2.2.2, hL.1⟩
    have HY : Hid (IBox g k (nth l k) w) := ⟨(hL.nth hlt).1, (hL.nth hlt).2.1, (hL.nth hlt).2.2.1, (hL.nth hlt).2.2.2, hL.1⟩
    obtain ⟨r, hr⟩ : ∃ r, eltB (nth l k) (nth l i) = r := ⟨_, rfl⟩
    rw [hr] at RL
    generalize hx : nth l i = x at *
    generalize hy : nth l k = y at *
    have EX := Lib.hid hx
    have EY := Lib.hid hy
    have ER := Lib.hid hr
    obtain ⟨n, en⟩ : ∃ n, l.length = n := ⟨_, rfl⟩
    have EN := Lib.hid en
    rw [en] at hlt hi
    have c01 : (0 : Int) ≤ (i : Int) := by omega
    have c02 : (i : Int) < (n : Int) := by omega
    have c03 : (0 : Int) ≤ (k : Int) := by omega
    have c04 : (k : Int) < (n : Int) := by omega
    rw [en, hr]
    obtain ⟨L', eL⟩ : ∃ L', (if k < n ∧ r = true then swp l i k else l) = L' := ⟨_, rfl⟩
    rw [eL]
    have EL := Lib.hid eL
    have HLT := Lib.hid hlt
    clear h hL hx hy hr en hlt ei ek eL
    go_enter Try.func65, Try.ntmps65
    go_wp2
    have ok : (planYes g n cap i k x y r).ok = true := rfl
    refine region_inv (Inv := fun lq_ aq_ wr => ∃ (e : Nat → Bool) (t : Nat → Value), lq_ = #[e 0, e 1, e 2, e 3, e 4, e 5, e 6, e 7, e 8, e 9, e 10, e 11, e 12, e 13, e 14, e 15, e 16] ∧ aq_ = ⟨#[.slice (some ⟨g, 0, none⟩) n cap, .int .i64 (kk : Int), undef, undef, .int .i64 (i : Int), .int .i64 (kk : Int), .int .i64 (i : Int), t 7, t 8, t 9, t 10, t 11, t 12, t 13, t 14, t 15, t 16, t 17, t 18, t 19, t 20, t 21, t 22, t 23, undef, undef, undef, undef, undef, undef, undef, undef, undef, undef, undef, undef, undef, undef, undef, undef], []⟩ ∧ Vals (planYes g n cap i k x y r) e t ∧ Below w.heap.size w wr) (by kernel_rfl) ?step ?start ?done
    case start => exact ⟨fun _ => false, fun _ => undef, rfl, rfl, Vals.start _ _, (Below.refl _ _).drew⟩
    case step =>
      rintro lq_ aq_ wr ⟨e, t, rfl, rfl, hs, hm⟩ q_ o ho hi ha
      match q_, ho, hi, ha with
      | 0, ho, hi, ha =>
        obtain rfl : _ = o := Option.some.inj ho
        have hi : e 0 = false := hi
        refine wpOp_step (i := 0) rfl (fun K hK => ?_)
        have HK : Shut (∀ a w, _ → K a w) := hK
        clear hK ho
        have HS := Lib.hid hs
        have HM := Lib.hid hm
        have HI := Lib.hid hi
        clear hs ha hm hi
        go_simp
        exact HK.out _ _ ⟨upd e 0 true, upd t 7 _, rfl, rfl, by exact HS.out.put ok (i := 0) rfl, HM.out⟩
      | 1, ho, hi, ha =>
        obtain rfl : _ = o := Option.some.inj ho
        have hi : e 1 = false := hi
        have T0 : t 7 = .int .i64 (i : Int) := hs.val 0 rfl (ha { on := 0, ground := .data } (by simp) rfl)
        have H0 := Lib.hid T0
        refine wpOp_step (i := 1) rfl (fun K hK => ?_)
        have HK : Shut (∀ a w, _ → K a w) := hK
        clear hK ho
        have HS := Lib.hid hs
        have HM := Lib.hid hm
        have HI := Lib.hid hi
        clear hs ha hm hi
        go_simp
        exact HK.out _ _ ⟨upd e 1 true, upd (upd t 7 _) 8 _, rfl, rfl, by rw [upd_self H0.out]; exact HS.out.put ok (i := 1) rfl, HM.out⟩
      | 2, ho, hi, ha =>
        obtain rfl : _ = o := Option.some.inj ho
        have hi : e 2 = false := hi
        refine wpOp_step (i := 2) rfl (fun K hK => ?_)
        have HK : Shut (∀ a w, _ → K a w) := hK
        clear hK ho
        have HS := Lib.hid hs
        have HM := Lib.hid hm
        have HI := Lib.hid hi
        clear hs ha hm hi
        go_simp
        exact HK.out _ _ ⟨upd e 2 true, upd t 9 _, rfl, rfl, by exact HS.out.put ok (i := 2) rfl, HM.out⟩
      | 3, ho, hi, ha =>
        obtain rfl : _ = o := Option.some.inj ho
        have hi : e 3 = false := hi
        have T2 : t 9 = .slice (some ⟨g, 0, none⟩) n cap := hs.val 2 rfl (ha { on := 2, ground := .data } (by simp) rfl)
        have H2 := Lib.hid T2
        refine wpOp_step (i := 3) rfl (fun K hK => ?_)
        have HK : Shut (∀ a w, _ → K a w) := hK
        clear hK ho
        have HS := Lib.hid hs
        have HM := Lib.hid hm
        have HI := Lib.hid hi
        clear hs ha hm hi
        go_simp
        exact HK.out _ _ ⟨upd e 3 true, upd (upd t 9 _) 10 _, rfl, rfl, by rw [upd_self H2.out]; exact HS.out.put ok (i := 3) rfl, HM.out⟩
      | 4, ho, hi, ha =>
        obtain rfl : _ = o := Option.some.inj ho
        have hi : e 4 = false := hi
        have T1 : t 8 = .int .i64 (k : Int) := hs.val 1 rfl (ha { on := 1, ground := .data } (by simp) rfl)
        have H1 := Lib.hid T1
        have T3 : t 10 = .int .i64 (n : Int) := hs.val 3 rfl (ha { on := 3, ground := .data } (by simp) rfl)
        have H3 := Lib.hid T3
        refine wpOp_step (i := 4) rfl (fun K hK => ?_)
        have HK : Shut (∀ a w, _ → K a w) := hK
        clear hK ho
        have HS := Lib.hid hs
        have HM := Lib.hid hm
        have HI := Lib.hid hi
        clear hs ha hm hi
        go_simp
        exact HK.out _ _ ⟨upd e 4 true, upd (upd (upd t 8 _) 10 _) 11 _, rfl, rfl, by rw [upd_self H1.out, upd_self H3.out]; exact HS.out.put ok (i := 4) rfl, HM.out⟩
      | 5, ho, hi, ha =>
        obtain rfl : _ = o := Option.some.inj ho
        have hi : e 5 = false := hi
        have T4 : t 11 = .bool true := hs.val 4 rfl (ha { on := 4, ground := .data } (by simp) rfl)
        have H4 := Lib.hid T4
        refine wpOp_step (i := 5) rfl (fun K hK => ?_)
        have HK : Shut (∀ a w, _ → K a w) := hK
        clear hK ho
        have HS := Lib.hid hs
        have HM := Lib.hid hm
        have HI := Lib.hid hi
        clear hs ha hm hi
        go_simp
        exact HK.out _ _ ⟨upd e 5 true, upd (upd t 11 _) 12 _, rfl, rfl, by rw [upd_self H4.out]; exact HS.out.put ok (i := 5) rfl, HM.out⟩
      | 6, ho, hi, ha =>
        obtain rfl : _ = o := Option.some.inj ho
        have hi : e 6 = false := hi
        have T5 : t 12 = .bool true := hs.val 5 rfl (ha { on := 5, ground := .guard } (by simp) rfl)
        have H5 := Lib.hid T5
        refine wpOp_step (i := 6) rfl (fun K hK => ?_)
        have HK : Shut (∀ a w, _ → K a w) := hK
        clear hK ho
        have HS := Lib.hid hs
        have HM := Lib.hid hm
        have HI := Lib.hid hi
        clear hs ha hm hi
        go_simp
        exact HK.out _ _ ⟨upd e 6 true, upd (upd t 12 _) 13 _, rfl, rfl, by rw [upd_self H5.out]; exact HS.out.put ok (i := 6) rfl, HM.out⟩
      | 7, ho, hi, ha =>
        obtain rfl : _ = o := Option.some.inj ho
        have hi : e 7 = false := hi
        have T5 : t 12 = .bool true := hs.val 5 rfl (ha { on := 5, ground := .guard } (by simp) rfl)
        have H5 := Lib.hid T5
        refine wpOp_step (i := 7) rfl (fun K hK => ?_)
        have HK : Shut (∀ a w, _ → K a w) := hK
        clear hK ho
        have HS := Lib.hid hs
        have HM := Lib.hid hm
        have HI := Lib.hid hi
        clear hs ha hm hi
        go_simp
        exact HK.out _ _ ⟨upd e 7 true, upd (upd t 12 _) 14 _, rfl, rfl, by rw [upd_self H5.out]; exact HS.out.put ok (i := 7) rfl, HM.out⟩
      | 8, ho, hi, ha =>
        obtain rfl : _ = o := Option.some.inj ho
        have hi : e 8 = false := hi
        have T5 : t 12 = .bool true := hs.val 5 rfl (ha { on := 5, ground := .guard } (by simp) rfl)
        have H5 := Lib.hid T5
        have T7 : t 14 = .int .i64 (i : Int) := hs.val 7 rfl (ha { on := 7, ground := .data } (by simp) rfl)
        have H7 := Lib.hid T7
        refine wpOp_step (i := 8) rfl (fun K hK => ?_)
        have HK : Shut (∀ a w, _ → K a w) := hK
        clear hK ho
        have HS := Lib.hid hs
        have HM := Lib.hid hm
        have HI := Lib.hid hi
        clear hs ha hm hi
        go_simp
        exact HK.out _ _ ⟨upd e 8 true, upd (upd (upd t 12 _) 14 _) 15 _, rfl, rfl, by rw [upd_self H5.out, upd_self H7.out]; exact HS.out.put ok (i := 8) rfl, HM.out⟩
      | 9, ho, hi, ha =>
        obtain rfl : _ = o := Option.some.inj ho
        have hi : e 9 = false := hi
        have T5 : t 12 = .bool true := hs.val 5 rfl (ha { on := 5, ground := .guard } (by simp) rfl)
        have H5 := Lib.hid T5
        have T6 : t 13 = .slice (some ⟨g, 0, none⟩) n cap := hs.val 6 rfl (ha { on := 6, ground := .data } (by simp) rfl)
        have H6 := Lib.hid T6
        have T8 : t 15 = .int .i64 (k : Int) := hs.val 8 rfl (ha { on := 8, ground := .data } (by simp) rfl)
        have H8 := Lib.hid T8
        refine wpOp_step (i := 9) rfl (fun K hK => ?_)
        have HK : Shut (∀ a w, _ → K a w) := hK
        clear hK ho
        have HS := Lib.hid hs
        have HM := Lib.hid hm
        have HI := Lib.hid hi
        clear hs ha hm hi
        go_simp
        exact HK.out _ _ ⟨upd e 9 true, upd (upd (upd (upd t 12 _) 13 _) 15 _) 16 _, rfl, rfl, by rw [upd_self H5.out, upd_self H6.out, upd_self H8.out]; exact HS.out.put ok (i := 9) rfl, HM.out⟩
      | 10, ho, hi, ha =>
        obtain rfl : _ = o := Option.some.inj ho
        have hi : e 10 = false := hi
        have T5 : t 12 = .bool true := hs.val 5 rfl (ha { on := 5, ground := .guard } (by simp) rfl)
        have H5 := Lib.hid T5
        have T9 : t 16 = .pointer (some ⟨g, k * 4, none⟩) := hs.val 9 rfl (ha { on := 9, ground := .data } (by simp) rfl)
        have H9 := Lib.hid T9
        obtain ⟨c0, c1, c2, c3, cz⟩ := HY.out.next hm
        refine wpOp_step (i := 10) rfl (fun K hK => ?_)
        have HK : Shut (∀ a w, _ → K a w) := hK
        clear hK ho
        have HS := Lib.hid hs
        have HM := Lib.hid hm
        have HI := Lib.hid hi
        clear hs ha hm hi
        go_simp
        exact HK.out _ _ ⟨upd e 10 true, upd (upd (upd t 12 _) 16 _) 17 _, rfl, rfl, by rw [upd_self H5.out, upd_self H9.out]; exact HS.out.put ok (i := 10) rfl, HM.out⟩
      | 11, ho, hi, ha =>
        obtain rfl : _ = o := Option.some.inj ho
        have hi : e 11 = false := hi
        have T5 : t 12 = .bool true := hs.val 5 rfl (ha { on := 5, ground := .guard } (by simp) rfl)
        have H5 := Lib.hid T5
        refine wpOp_step (i := 11) rfl (fun K hK => ?_)
        have HK : Shut (∀ a w, _ → K a w) := hK
        clear hK ho
        have HS := Lib.hid hs
        have HM := Lib.hid hm
        have HI := Lib.hid hi
        clear hs ha hm hi
        go_simp
        exact HK.out _ _ ⟨upd e 11 true, upd (upd t 12 _) 18 _, rfl, rfl, by rw [upd_self H5.out]; exact HS.out.put ok (i := 11) rfl, HM.out⟩
      | 12, ho, hi, ha =>
        obtain rfl : _ = o := Option.some.inj ho
        have hi : e 12 = false := hi
        have T5 : t 12 = .bool true := hs.val 5 rfl (ha { on := 5, ground := .guard } (by simp) rfl)
        have H5 := Lib.hid T5
        refine wpOp_step (i := 12) rfl (fun K hK => ?_)
        have HK : Shut (∀ a w, _ → K a w) := hK
        clear hK ho
        have HS := Lib.hid hs
        have HM := Lib.hid hm
        have HI := Lib.hid hi
        clear hs ha hm hi
        go_simp
        exact HK.out _ _ ⟨upd e 12 true, upd (upd t 12 _) 19 _, rfl, rfl, by rw [upd_self H5.out]; exact HS.out.put ok (i := 12) rfl, HM.out⟩
      | 13, ho, hi, ha =>
        obtain rfl : _ = o := Option.some.inj ho
        have hi : e 13 = false := hi
        have T5 : t 12 = .bool true := hs.val 5 rfl (ha { on := 5, ground := .guard } (by simp) rfl)
        have H5 := Lib.hid T5
        have T11 : t 18 = .slice (some ⟨g, 0, none⟩) n cap := hs.val 11 rfl (ha { on := 11, ground := .data } (by simp) rfl)
        have H11 := Lib.hid T11
        have T12 : t 19 = .int .i64 (i : Int) := hs.val 12 rfl (ha { on := 12, ground := .data } (by simp) rfl)
        have H12 := Lib.hid T12
        refine wpOp_step (i := 13) rfl (fun K hK => ?_)
        have HK : Shut (∀ a w, _ → K a w) := hK
        clear hK ho
        have HS := Lib.hid hs
        have HM := Lib.hid hm
        have HI := Lib.hid hi
        clear hs ha hm hi
        go_simp
        exact HK.out _ _ ⟨upd e 13 true, upd (upd (upd (upd t 12 _) 18 _) 19 _) 20 _, rfl, rfl, by rw [upd_self H5.out, upd_self H11.out, upd_self H12.out]; exact HS.out.put ok (i := 13) rfl, HM.out⟩
      | 14, ho, hi, ha =>
        obtain rfl : _ = o := Option.some.inj ho
        have hi : e 14 = false := hi
        have T5 : t 12 = .bool true := hs.val 5 rfl (ha { on := 5, ground := .guard } (by simp) rfl)
        have H5 := Lib.hid T5
        have T13 : t 20 = .pointer (some ⟨g, i * 4, none⟩) := hs.val 13 rfl (ha { on := 13, ground := .data } (by simp) rfl)
        have H13 := Lib.hid T13
        obtain ⟨c0, c1, c2, c3, cz⟩ := HX.out.next hm
        refine wpOp_step (i := 14) rfl (fun K hK => ?_)
        have HK : Shut (∀ a w, _ → K a w) := hK
        clear hK ho
        have HS := Lib.hid hs
        have HM := Lib.hid hm
        have HI := Lib.hid hi
        clear hs ha hm hi
        go_simp
        exact HK.out _ _ ⟨upd e 14 true, upd (upd (upd t 12 _) 20 _) 21 _, rfl, rfl, by rw [upd_self H5.out, upd_self H13.out]; exact HS.out.put ok (i := 14) rfl, HM.out⟩
      | 15, ho, hi, ha =>
        obtain rfl : _ = o := Option.some.inj ho
        have hi : e 15 = false := hi
        have T5 : t 12 = .bool true := hs.val 5 rfl (ha { on := 5, ground := .guard } (by simp) rfl)
        have H5 := Lib.hid T5
        have T10 : t 17 = .agg #[.int .i64 y.b, .int .i64 y.d, .int .i64 y.s, .int .i64 y.i] := hs.val 10 rfl (ha { on := 10, ground := .data } (by simp) rfl)
        have H10 := Lib.hid T10
        have T14 : t 21 = .agg #[.int .i64 x.b, .int .i64 x.d, .int .i64 x.s, .int .i64 x.i] := hs.val 14 rfl (ha { on := 14, ground := .data } (by simp) rfl)
        have H14 := Lib.hid T14
        refine wpOp_step (i := 15) rfl (fun K hK => ?_)
        have HK : Shut (∀ a w, _ → K a w) := hK
        clear hK ho
        have HS := Lib.hid hs
        have HM := Lib.hid hm
        have HI := Lib.hid hi
        clear hs ha hm hi
        go_simp
        (with_reducible refine (RL _).mono ?_)
        rintro e' w' ⟨rfl, m⟩
        go_wp2_with fail
        exact HK.out _ _ ⟨upd e 15 true, upd (upd (upd (upd t 12 _) 17 _) 21 _) 22 _, rfl, rfl, by rw [upd_self H5.out, upd_self H10.out, upd_self H14.out]; exact HS.out.put ok (i := 15) rfl, HM.out.trans (m.below.mono HM.out.size)⟩
      | 16, ho, hi, ha =>
        obtain rfl : _ = o := Option.some.inj ho
        have hi : e 16 = false := hi
        have T5 : t 12 = .bool true := hs.val 5 rfl (ha { on := 5, ground := .data } (by simp) rfl)
        have H5 := Lib.hid T5
        have T15 : t 22 = .bool r := hs.val 15 rfl (ha { on := 15, ground := .data } (by simp) rfl)
        have H15 := Lib.hid T15
        refine wpOp_step (i := 16) rfl (fun K hK => ?_)
        have HK : Shut (∀ a w, _ → K a w) := hK
        clear hK ho
        have HS := Lib.hid hs
        have HM := Lib.hid hm
        have HI := Lib.hid hi
        clear hs ha hm hi
        go_simp
        exact HK.out _ _ ⟨upd e 16 true, upd (upd (upd t 12 _) 22 _) 23 _, rfl, rfl, by rw [upd_self H5.out, upd_self H15.out]; exact HS.out.put ok (i := 16) rfl, HM.out⟩
      | k + 17, ho, hi, ha => simp at ho
    case done =>
      rintro lq_ aq_ wr ⟨e, t, rfl, rfl, hs, hm⟩ hr
      have hd := ready_done hr rfl (by decide +kernel)
      have e16 : t 23 = .bool r := hs.val 16 rfl (hd 16 (by decide))
      rw [e16]
      generalize t 7 = u7, t 8 = u8, t 9 = u9, t 10 = u10, t 11 = u11, t 12 = u12, t 13 = u13, t 14 = u14, t 15 = u15, t 16 = u16, t 17 = u17, t 18 = u18, t 19 = u19, t 20 = u20, t 21 = u21, t 22 = u22
      clear hs hd hr e16 RL
      have HR1 := rowNext HH.out hm
      have HB1 := Lib.hid hm
      generalize wr = w1 at *
      clear hm HX HY
      cases r with
      | false =>
        have E : Hid (Row B g n cap L' w1 ∧ w.grownBy w1 (some g)) := ⟨by rw [← EL.out, if_neg (by simp), ← EN.out]; exact HR1, grown_below HB1.out⟩
        clear HR1
        go_wp2
        go_end0
        exact ⟨rfl, E.out.1, E.out.2⟩
      | true =>
        have hil : i < l.length := by rw [EN.out]; exact hi
        have hkl : k < l.length := by rw [EN.out]; exact HLT.out
        have hdr : Row B g l.length cap l w1.drew := HR1.drew
        have hf := hdr.put hil (nth l k)
        have HP : Hid (Row B g l.length cap (swp l i k) (World.drew _)) := World.ownsRow.drew ((HR1.put hil (nth l k)).put (by simpa using hkl) (nth l i))
        have HQ := Lib.hid (hf.facts (k := k) (by simpa using hkl))
        obtain ⟨a0, a1, a2, a3⟩ := (own_list HR1).nth hil
        obtain ⟨b0, b1, b2, b3⟩ := (own_list HR1).nth hkl
        have z0 := HR1.frozenAt (i * 4)
        have z1 := HR1.frozenAt (i * 4 + 1)
        have z2 := HR1.frozenAt (i * 4 + 2)
        have z3 := HR1.frozenAt (i * 4 + 3)
        have y0 := HR1.frozenAt (k * 4)
        have y1 := HR1.frozenAt (k * 4 + 1)
        have y2 := HR1.frozenAt (k * 4 + 2)
        have y3 := HR1.frozenAt (k * 4 + 3)
        have fz := (HR1.lt g rfl).2
        rw [EX.out, EY.out] at HP
        rw [EY.out] at HQ b0 b1 b2 b3
        rw [EX.out] at a0 a1 a2 a3
        have eL2 : swp l i k = L' := by rw [← EL.out, if_pos ⟨HLT.out, rfl⟩]
        rw [EN.out, eL2] at HP
        clear eL2 HR1 hdr hf hil hkl HH
        go_wp2
        have ok : (planTurn g n cap i k x y).ok = true := rfl
        refine region_inv (Inv := fun lq_ aq_ wr => ∃ (e : Nat → Bool) (t : Nat → Value), lq_ = #[e 0, e 1, e 2, e 3, e 4, e 5, e 6, e 7, e 8, e 9, e 10, e 11, e 12, e 13, e 14, e 15, e 16, e 17] ∧ aq_ = ⟨#[.slice (some ⟨g, 0, none⟩) n cap, .int .i64 (kk : Int), undef, undef, .int .i64 (i : Int), .int .i64 (kk : Int), .int .i64 (i : Int), u7, u8, u9, u10, u11, u12, u13, u14, u15, u16, u17, u18, u19, u20, u21, u22, .bool true, t 24, t 25, t 26, t 27, t 28, t 29, t 30, t 31, t 32, t 33, t 34, t 35, t 36, t 37, t 38, t 39], []⟩ ∧ Vals (planTurn g n cap i k x y) e t ∧ MSw w1.drew ((((w1.drew.setCell ⟨g, i * 4, none⟩ (.int .i64 y.b)).setCell ⟨g, i * 4 + 1, none⟩ (.int .i64 y.d)).setCell ⟨g, i * 4 + 2, none⟩ (.int .i64 y.s)).setCell ⟨g, i * 4 + 3, none⟩ (.int .i64 y.i)) ((((((((w1.drew.setCell ⟨g, i * 4, none⟩ (.int .i64 y.b)).setCell ⟨g, i * 4 + 1, none⟩ (.int .i64 y.d)).setCell ⟨g, i * 4 + 2, none⟩ (.int .i64 y.s)).setCell ⟨g, i * 4 + 3, none⟩ (.int .i64 y.i)).setCell ⟨g, k * 4, none⟩ (.int .i64 x.b)).setCell ⟨g, k * 4 + 1, none⟩ (.int .i64 x.d)).setCell ⟨g, k * 4 + 2, none⟩ (.int .i64 x.s)).setCell ⟨g, k * 4 + 3, none⟩ (.int .i64 x.i)) (fun j => e (j + 2)) wr) (by kernel_rfl) ?step ?start ?done
        case start => exact ⟨fun _ => false, fun _ => undef, rfl, rfl, Vals.start _ _, MSw.start _ _ _⟩
        case step =>
          rintro lq_ aq_ wr ⟨e, t, rfl, rfl, hs, hm⟩ q_ o ho hi ha
          match q_, ho, hi, ha with
          | 0, ho, hi, ha =>
            obtain rfl : _ = o := Option.some.inj ho
            have hi : e 0 = false := hi
            refine wpOp_step (i := 0) rfl (fun K hK => ?_)
            have HK : Shut (∀ a w, _ → K a w) := hK
            clear hK ho
            have HS := Lib.hid hs
            have HM := Lib.hid hm
            have HI := Lib.hid hi
            clear hs ha hm hi
            go_simp
            exact HK.out _ _ ⟨upd e 0 true, upd t 24 _, rfl, rfl, by exact HS.out.put ok (i := 0) rfl, HM.out.of rfl rfl rfl rfl⟩
          | 1, ho, hi, ha =>
            obtain rfl : _ = o := Option.some.inj ho
            have hi : e 1 = false := hi
            refine wpOp_step (i := 1) rfl (fun K hK => ?_)
            have HK : Shut (∀ a w, _ → K a w) := hK
            clear hK ho
            have HS := Lib.hid hs
            have HM := Lib.hid hm
            have HI := Lib.hid hi
            clear hs ha hm hi
            go_simp
            exact HK.out _ _ ⟨upd e 1 true, upd t 25 _, rfl, rfl, by exact HS.out.put ok (i := 1) rfl, HM.out.of rfl rfl rfl rfl⟩
          | 2, ho, hi, ha =>
            obtain rfl : _ = o := Option.some.inj ho
            have hi : e 2 = false := hi
            refine wpOp_step (i := 2) rfl (fun K hK => ?_)
            have HK : Shut (∀ a w, _ → K a w) := hK
            clear hK ho
            have HS := Lib.hid hs
            have HM := Lib.hid hm
            have HI := Lib.hid hi
            clear hs ha hm hi
            go_simp
            exact HK.out _ _ ⟨upd e 2 true, upd t 26 _, rfl, rfl, by exact HS.out.put ok (i := 2) rfl, HM.out.of rfl rfl rfl rfl⟩
          | 3, ho, hi, ha =>
            obtain rfl : _ = o := Option.some.inj ho
            have hi : e 3 = false := hi
            refine wpOp_step (i := 3) rfl (fun K hK => ?_)
            have HK : Shut (∀ a w, _ → K a w) := hK
            clear hK ho
            have HS := Lib.hid hs
            have HM := Lib.hid hm
            have HI := Lib.hid hi
            clear hs ha hm hi
            go_simp
            exact HK.out _ _ ⟨upd e 3 true, upd t 27 _, rfl, rfl, by exact HS.out.put ok (i := 3) rfl, HM.out.of rfl rfl rfl rfl⟩
          | 4, ho, hi, ha =>
            obtain rfl : _ = o := Option.some.inj ho
            have hi : e 4 = false := hi
            have T3 : t 27 = .int .i64 (i : Int) := hs.val 3 rfl (ha { on := 3, ground := .data } (by simp) rfl)
            have H3 := Lib.hid T3
            refine wpOp_step (i := 4) rfl (fun K hK => ?_)
            have HK : Shut (∀ a w, _ → K a w) := hK
            clear hK ho
            have HS := Lib.hid hs
            have HM := Lib.hid hm
            have HI := Lib.hid hi
            clear hs ha hm hi
            go_simp
            exact HK.out _ _ ⟨upd e 4 true, upd (upd t 27 _) 28 _, rfl, rfl, by rw [upd_self H3.out]; exact HS.out.put ok (i := 4) rfl, HM.out.of rfl rfl rfl rfl⟩
          | 5, ho, hi, ha =>
            obtain rfl : _ = o := Option.some.inj ho
            have hi : e 5 = false := hi
            refine wpOp_step (i := 5) rfl (fun K hK => ?_)
            have HK : Shut (∀ a w, _ → K a w) := hK
            clear hK ho
            have HS := Lib.hid hs
            have HM := Lib.hid hm
            have HI := Lib.hid hi
            clear hs ha hm hi
            go_simp
            exact HK.out _ _ ⟨upd e 5 true, upd t 29 _, rfl, rfl, by exact HS.out.put ok (i := 5) rfl, HM.out.of rfl rfl rfl rfl⟩
          | 6, ho, hi, ha =>
            obtain rfl : _ = o := Option.some.inj ho
            have hi : e 6 = false := hi
            refine wpOp_step (i := 6) rfl (fun K hK => ?_)
            have HK : Shut (∀ a w, _ → K a w) := hK
            clear hK ho
            have HS := Lib.hid hs
            have HM := Lib.hid hm
            have HI := Lib.hid hi
            clear hs ha hm hi
            go_simp
            exact HK.out _ _ ⟨upd e 6 true, upd t 30 _, rfl, rfl, by exact HS.out.put ok (i := 6) rfl, HM.out.of rfl rfl rfl rfl⟩
          | 7, ho, hi, ha =>
            obtain rfl : _ = o := Option.some.inj ho
            have hi : e 7 = false := hi
            have T6 : t 30 = .int .i64 (i : Int) := hs.val 6 rfl (ha { on := 6, ground := .data } (by simp) rfl)
            have H6 := Lib.hid T6
            refine wpOp_step (i := 7) rfl (fun K hK => ?_)
            have HK : Shut (∀ a w, _ → K a w) := hK
            clear hK ho
            have HS := Lib.hid hs
            have HM := Lib.hid hm
            have HI := Lib.hid hi
            clear hs ha hm hi
            go_simp
            exact HK.out _ _ ⟨upd e 7 true, upd (upd t 30 _) 31 _, rfl, rfl, by rw [upd_self H6.out]; exact HS.out.put ok (i := 7) rfl, HM.out.of rfl rfl rfl rfl⟩
          | 8, ho, hi, ha =>
            obtain rfl : _ = o := Option.some.inj ho
            have hi : e 8 = false := hi
            have T5 : t 29 = .slice (some ⟨g, 0, none⟩) n cap := hs.val 5 rfl (ha { on := 5, ground := .data } (by simp) rfl)
            have H5 := Lib.hid T5
            have T7 : t 31 = .int .i64 (k : Int) := hs.val 7 rfl (ha { on := 7, ground := .data } (by simp) rfl)
            have H7 := Lib.hid T7
            refine wpOp_step (i := 8) rfl (fun K hK => ?_)
            have HK : Shut (∀ a w, _ → K a w) := hK
            clear hK ho
            have HS := Lib.hid hs
            have HM := Lib.hid hm
            have HI := Lib.hid hi
            clear hs ha hm hi
            go_simp
            exact HK.out _ _ ⟨upd e 8 true, upd (upd (upd t 29 _) 31 _) 32 _, rfl, rfl, by rw [upd_self H5.out, upd_self H7.out]; exact HS.out.put ok (i := 8) rfl, HM.out.of rfl rfl rfl rfl⟩
          | 9, ho, hi, ha =>
            obtain rfl : _ = o := Option.some.inj ho
            have hi : e 9 = false := hi
            have T8 : t 32 = .pointer (some ⟨g, k * 4, none⟩) := hs.val 8 rfl (ha { on := 8, ground := .data } (by simp) rfl)
            have H8 := Lib.hid T8
            obtain rfl := hm.early (.inl hi)
            refine wpOp_step (i := 9) rfl (fun K hK => ?_)
            have HK : Shut (∀ a w, _ → K a w) := hK
            clear hK ho
            have HS := Lib.hid hs
            have HM := Lib.hid hm
            have HI := Lib.hid hi
            clear hs ha hm hi
            go_simp
            exact HK.out _ _ ⟨upd e 9 true, upd (upd t 32 _) 33 _, rfl, rfl, by rw [upd_self H8.out]; exact HS.out.put ok (i := 9) rfl, HM.out.set7.of rfl rfl rfl rfl⟩
          | 10, ho, hi, ha =>
            obtain rfl : _ = o := Option.some.inj ho
            have hi : e 10 = false := hi
            refine wpOp_step (i := 10) rfl (fun K hK => ?_)
            have HK : Shut (∀ a w, _ → K a w) := hK
            clear hK ho
            have HS := Lib.hid hs
            have HM := Lib.hid hm
            have HI := Lib.hid hi
            clear hs ha hm hi
            go_simp
            exact HK.out _ _ ⟨upd e 10 true, upd t 34 _, rfl, rfl, by exact HS.out.put ok (i := 10) rfl, HM.out.of rfl rfl rfl rfl⟩
          | 11, ho, hi, ha =>
            obtain rfl : _ = o := Option.some.inj ho
            have hi : e 11 = false := hi
            refine wpOp_step (i := 11) rfl (fun K hK => ?_)
            have HK : Shut (∀ a w, _ → K a w) := hK
            clear hK ho
            have HS := Lib.hid hs
            have HM := Lib.hid hm
            have HI := Lib.hid hi
            clear hs ha hm hi
            go_simp
            exact HK.out _ _ ⟨upd e 11 true, upd t 35 _, rfl, rfl, by exact HS.out.put ok (i := 11) rfl, HM.out.of rfl rfl rfl rfl⟩
          | 12, ho, hi, ha =>
            obtain rfl : _ = o := Option.some.inj ho
            have hi : e 12 = false := hi
            have T10 : t 34 = .slice (some ⟨g, 0, none⟩) n cap := hs.val 10 rfl (ha { on := 10, ground := .data } (by simp) rfl)
            have H10 := Lib.hid T10
            have T11 : t 35 = .int .i64 (i : Int) := hs.val 11 rfl (ha { on := 11, ground := .data } (by simp) rfl)
            have H11 := Lib.hid T11
            refine wpOp_step (i := 12) rfl (fun K hK => ?_)
            have HK : Shut (∀ a w, _ → K a w) := hK
            clear hK ho
            have HS := Lib.hid hs
            have HM := Lib.hid hm
            have HI := Lib.hid hi
            clear hs ha hm hi
            go_simp
            exact HK.out _ _ ⟨upd e 12 true, upd (upd (upd t 34 _) 35 _) 36 _, rfl, rfl, by rw [upd_self H10.out, upd_self H11.out]; exact HS.out.put ok (i := 12) rfl, HM.out.of rfl rfl rfl rfl⟩
          | 13, ho, hi, ha =>
            obtain rfl : _ = o := Option.some.inj ho
            have hi : e 13 = false := hi
            have T12 : t 36 = .pointer (some ⟨g, i * 4, none⟩) := hs.val 12 rfl (ha { on := 12, ground := .data } (by simp) rfl)
            have H12 := Lib.hid T12
            obtain rfl := hm.early (.inr hi)
            refine wpOp_step (i := 13) rfl (fun K hK => ?_)
            have HK : Shut (∀ a w, _ → K a w) := hK
            clear hK ho
            have HS := Lib.hid hs
            have HM := Lib.hid hm
            have HI := Lib.hid hi
            clear hs ha hm hi
            go_simp
            exact HK.out _ _ ⟨upd e 13 true, upd (upd t 36 _) 37 _, rfl, rfl, by rw [upd_self H12.out]; exact HS.out.put ok (i := 13) rfl, HM.out.set11.of rfl rfl rfl rfl⟩
          | 14, ho, hi, ha =>
            obtain rfl : _ = o := Option.some.inj ho
            have hi : e 14 = false := hi
            have T0 : t 24 = .slice (some ⟨g, 0, none⟩) n cap := hs.val 0 rfl (ha { on := 0, ground := .data } (by simp) rfl)
            have H0 := Lib.hid T0
            have T1 : t 25 = .int .i64 (i : Int) := hs.val 1 rfl (ha { on := 1, ground := .data } (by simp) rfl)
            have H1 := Lib.hid T1
            refine wpOp_step (i := 14) rfl (fun K hK => ?_)
            have HK : Shut (∀ a w, _ → K a w) := hK
            clear hK ho
            have HS := Lib.hid hs
            have HM := Lib.hid hm
            have HI := Lib.hid hi
            clear hs ha hm hi
            go_simp
            exact HK.out _ _ ⟨upd e 14 true, upd (upd (upd t 24 _) 25 _) 38 _, rfl, rfl, by rw [upd_self H0.out, upd_self H1.out]; exact HS.out.put ok (i := 14) rfl, HM.out.of rfl rfl rfl rfl⟩
          | 15, ho, hi, ha =>
            obtain rfl : _ = o := Option.some.inj ho
            have hi : e 15 = false := hi
            have T14 : t 38 = .pointer (some ⟨g, i * 4, none⟩) := hs.val 14 rfl (ha { on := 14, ground := .data } (by simp) rfl)
            have H14 := Lib.hid T14
            have T9 : t 33 = .agg #[.int .i64 y.b, .int .i64 y.d, .int .i64 y.s, .int .i64 y.i] := hs.val 9 rfl (ha { on := 9, ground := .data } (by simp) rfl)
            have H9 := Lib.hid T9
            obtain rfl := hm.first hi
            have e7 := Lib.hid (ha { on := 9, ground := .data } (by simp) rfl)
            have e11 := Lib.hid (ha { on := 13, ground := .phase } (by simp) rfl)
            refine wpOp_step (i := 15) rfl (fun K hK => ?_)
            have HK : Shut (∀ a w, _ → K a w) := hK
            clear hK ho
            have HS := Lib.hid hs
            have HM := Lib.hid hm
            have HI := Lib.hid hi
            clear hs ha hm hi
            go_simp
            exact HK.out _ _ ⟨upd e 15 true, (upd (upd t 38 _) 33 _), rfl, rfl, by rw [upd_self H14.out, upd_self H9.out]; exact HS.out.skip (i := 15) rfl, (HM.out.set13 HI.out e7.out e11.out).of rfl rfl rfl rfl⟩
          | 16, ho, hi, ha =>
            obtain rfl : _ = o := Option.some.inj ho
            have hi : e 16 = false := hi
            have T2 : t 26 = .slice (some ⟨g, 0, none⟩) n cap := hs.val 2 rfl (ha { on := 2, ground := .data } (by simp) rfl)
            have H2 := Lib.hid T2
            have T4 : t 28 = .int .i64 (k : Int) := hs.val 4 rfl (ha { on := 4, ground := .data } (by simp) rfl)
            have H4 := Lib.hid T4
            refine wpOp_step (i := 16) rfl (fun K hK => ?_)
            have HK : Shut (∀ a w, _ → K a w) := hK
            clear hK ho
            have HS := Lib.hid hs
            have HM := Lib.hid hm
            have HI := Lib.hid hi
            clear hs ha hm hi
            go_simp
            exact HK.out _ _ ⟨upd e 16 true, upd (upd (upd t 26 _) 28 _) 39 _, rfl, rfl, by rw [upd_self H2.out, upd_self H4.out]; exact HS.out.put ok (i := 16) rfl, HM.out.of rfl rfl rfl rfl⟩
          | 17, ho, hi, ha =>
            obtain rfl : _ = o := Option.some.inj ho
            have hi : e 17 = false := hi
            have T16 : t 39 = .pointer (some ⟨g, k * 4, none⟩) := hs.val 16 rfl (ha { on := 16, ground := .data } (by simp) rfl)
            have H16 := Lib.hid T16
            have T13 : t 37 = .agg #[.int .i64 x.b, .int .i64 x.d, .int .i64 x.s, .int .i64 x.i] := hs.val 13 rfl (ha { on := 13, ground := .data } (by simp) rfl)
            have H13 := Lib.hid T13
            have e13 : e 15 = true := ha { on := 15, ground := .chain } (by simp) rfl
            obtain rfl := hm.second e13 hi
            have E13 := Lib.hid e13
            clear e13
            obtain ⟨z, q0, q1, q2, q3, p0, p1, p2, p3⟩ := HQ.out
            generalize ((((w1.drew.setCell ⟨g, i * 4, none⟩ (.int .i64 y.b)).setCell ⟨g, i * 4 + 1, none⟩ (.int .i64 y.d)).setCell ⟨g, i * 4 + 2, none⟩ (.int .i64 y.s)).setCell ⟨g, i * 4 + 3, none⟩ (.int .i64 y.i)) = u at *
            refine wpOp_step (i := 17) rfl (fun K hK => ?_)
            have HK : Shut (∀ a w, _ → K a w) := hK
            clear hK ho
            have HS := Lib.hid hs
            have HM := Lib.hid hm
            have HI := Lib.hid hi
            clear hs ha hm hi
            go_simp
            exact HK.out _ _ ⟨upd e 17 true, (upd (upd t 39 _) 37 _), rfl, rfl, by rw [upd_self H16.out, upd_self H13.out]; exact HS.out.skip (i := 17) rfl, (HM.out.set15 E13.out).of rfl rfl rfl rfl⟩
          | k + 18, ho, hi, ha => simp at ho
        case done =>
          rintro lq_ aq_ wr ⟨e, t, rfl, rfl, hs, hm⟩ hr
          have hd := ready_done hr rfl (by decide +kernel)
          have e15 : e 15 = true := hd 15 (by decide)
          have e17 : e 17 = true := hd 17 (by decide)
          obtain rfl := hm.c e17
          clear hs hm hd hr e15 e17 HQ
          go_wp2
          go_end0
          exact ⟨rfl, HP.out, grown_trans (grown_trans (grown_trans (grown_below HB1.out) grown_set4) grown_set4) (grown_below (Below.refl _ _).drew)⟩
  · have e : ¬ (k < l.length ∧ eltB (nth l k) (nth l i) = true) := fun h => hlt h.1
    rw [if_neg e]
    have E : Hid (∀ w', Below w.heap.size w w' → Row B g l.length cap l w' ∧ w.grownBy w' (some g)) := fun w' b => ⟨rowNext h b, grown_below b⟩
    generalize l.length = n at *
    have hlt' : decide (k < n) = false := by simp; omega
    clear h e ei ek
    go_enter Try.func65, Try.ntmps65
    go_wp2
    have ok : (planNo g n cap i k).ok = true := rfl
    refine region_inv (Inv := fun lq_ aq_ wr => ∃ (e : Nat → Bool) (t : Nat → Value), lq_ = #[e 0, e 1, e 2, e 3, e 4, e 5, e 6, e 7, e 8, e 9, e 10, e 11, e 12, e 13, e 14, e 15, e 16] ∧ aq_ = ⟨#[.slice (some ⟨g, 0, none⟩) n cap, .int .i64 (kk : Int), undef, undef, .int .i64 (i : Int), .int .i64 (kk : Int), .int .i64 (i : Int), t 7, t 8, t 9, t 10, t 11, t 12, t 13, t 14, t 15, t 16, t 17, t 18, t 19, t 20, t 21, t 22, t 23, undef, undef, undef, undef, undef, undef, undef, undef, undef, undef, undef, undef, undef, undef, undef, undef], []⟩ ∧ Vals (planNo g n cap i k) e t ∧ Below w.heap.size w wr) (by kernel_rfl) ?step ?start ?done
    case start => exact ⟨fun _ => false, fun _ => undef, rfl, rfl, Vals.start _ _, (Below.refl _ _).drew⟩
    case step =>
      rintro lq_ aq_ wr ⟨e, t, rfl, rfl, hs, hm⟩ q_ o ho hi ha
      match q_, ho, hi, ha with
      | 0, ho, hi, ha =>
        obtain rfl : _ = o := Option.some.inj ho
        have hi : e 0 = false := hi
        refine wpOp_step (i := 0) rfl (fun K hK => ?_)
        have HK : Shut (∀ a w, _ → K a w) := hK
        clear hK ho
        have HS := Lib.hid hs
        have HM := Lib.hid hm
        have HI := Lib.hid hi
        clear hs ha hm hi
        go_simp
        exact HK.out _ _ ⟨upd e 0 true, upd t 7 _, rfl, rfl, by exact HS.out.put ok (i := 0) rfl, HM.out⟩
      | 1, ho, hi, ha =>
        obtain rfl : _ = o := Option.some.inj ho
        have hi : e 1 = false := hi
        have T0 : t 7 = .int .i64 (i : Int) := hs.val 0 rfl (ha { on := 0, ground := .data } (by simp) rfl)
        have H0 := Lib.hid T0
        refine wpOp_step (i := 1) rfl (fun K hK => ?_)
        have HK : Shut (∀ a w, _ → K a w) := hK
        clear hK ho
        have HS := Lib.hid hs
        have HM := Lib.hid hm
        have HI := Lib.hid hi
        clear hs ha hm hi
        go_simp
        exact HK.out _ _ ⟨upd e 1 true, upd (upd t 7 _) 8 _, rfl, rfl, by rw [upd_self H0.out]; exact HS.out.put ok (i := 1) rfl, HM.out⟩
      | 2, ho, hi, ha =>
        obtain rfl : _ = o := Option.some.inj ho
        have hi : e 2 = false := hi
        refine wpOp_step (i := 2) rfl (fun K hK => ?_)
        have HK : Shut (∀ a w, _ → K a w) := hK
        clear hK ho
        have HS := Lib.hid hs
        have HM := Lib.hid hm
        have HI := Lib.hid hi
        clear hs ha hm hi
        go_simp
        exact HK.out _ _ ⟨upd e 2 true, upd t 9 _, rfl, rfl, by exact HS.out.put ok (i := 2) rfl, HM.out⟩
      | 3, ho, hi, ha =>
        obtain rfl : _ = o := Option.some.inj ho
        have hi : e 3 = false := hi
        have T2 : t 9 = .slice (some ⟨g, 0, none⟩) n cap := hs.val 2 rfl (ha { on := 2, ground := .data } (by simp) rfl)
        have H2 := Lib.hid T2
        refine wpOp_step (i := 3) rfl (fun K hK => ?_)
        have HK : Shut (∀ a w, _ → K a w) := hK
        clear hK ho
        have HS := Lib.hid hs
        have HM := Lib.hid hm
        have HI := Lib.hid hi
        clear hs ha hm hi
        go_simp
        exact HK.out _ _ ⟨upd e 3 true, upd (upd t 9 _) 10 _, rfl, rfl, by rw [upd_self H2.out]; exact HS.out.put ok (i := 3) rfl, HM.out⟩
      | 4, ho, hi, ha =>
        obtain rfl : _ = o := Option.some.inj ho
        have hi : e 4 = false := hi
        have T1 : t 8 = .int .i64 (k : Int) := hs.val 1 rfl (ha { on := 1, ground := .data } (by simp) rfl)
        have H1 := Lib.hid T1
        have T3 : t 10 = .int .i64 (n : Int) := hs.val 3 rfl (ha { on := 3, ground := .data } (by simp) rfl)
        have H3 := Lib.hid T3
        refine wpOp_step (i := 4) rfl (fun K hK => ?_)
        have HK : Shut (∀ a w, _ → K a w) := hK
        clear hK ho
        have HS := Lib.hid hs
        have HM := Lib.hid hm
        have HI := Lib.hid hi
        clear hs ha hm hi
        go_simp
        exact HK.out _ _ ⟨upd e 4 true, upd (upd (upd t 8 _) 10 _) 11 _, rfl, rfl, by rw [upd_self H1.out, upd_self H3.out]; exact HS.out.put ok (i := 4) rfl, HM.out⟩
      | 5, ho, hi, ha =>
        obtain rfl : _ = o := Option.some.inj ho
        have hi : e 5 = false := hi
        have T4 : t 11 = .bool false := hs.val 4 rfl (ha { on := 4, ground := .data } (by simp) rfl)
        have H4 := Lib.hid T4
        refine wpOp_step (i := 5) rfl (fun K hK => ?_)
        have HK : Shut (∀ a w, _ → K a w) := hK
        clear hK ho
        have HS := Lib.hid hs
        have HM := Lib.hid hm
        have HI := Lib.hid hi
        clear hs ha hm hi
        go_simp
        exact HK.out _ _ ⟨upd e 5 true, upd (upd t 11 _) 12 _, rfl, rfl, by rw [upd_self H4.out]; exact HS.out.put ok (i := 5) rfl, HM.out⟩
      | 6, ho, hi, ha =>
        obtain rfl : _ = o := Option.some.inj ho
        have hi : e 6 = false := hi
        have T5 : t 12 = .bool false := hs.val 5 rfl (ha { on := 5, ground := .guard } (by simp) rfl)
        have H5 := Lib.hid T5
        refine wpOp_step (i := 6) rfl (fun K hK => ?_)
        have HK : Shut (∀ a w, _ → K a w) := hK
        clear hK ho
        have HS := Lib.hid hs
        have HM := Lib.hid hm
        have HI := Lib.hid hi
        clear hs ha hm hi
        go_simp
        exact HK.out _ _ ⟨upd e 6 true, upd (upd t 12 _) 13 _, rfl, rfl, by rw [upd_self H5.out]; exact HS.out.put ok (i := 6) rfl, HM.out⟩
      | 7, ho, hi, ha =>
        obtain rfl : _ = o := Option.some.inj ho
        have hi : e 7 = false := hi
        have T5 : t 12 = .bool false := hs.val 5 rfl (ha { on := 5, ground := .guard } (by simp) rfl)
        have H5 := Lib.hid T5
        refine wpOp_step (i := 7) rfl (fun K hK => ?_)
        have HK : Shut (∀ a w, _ → K a w) := hK
        clear hK ho
        have HS := Lib.hid hs
        have HM := Lib.hid hm
        have HI := Lib.hid hi
        clear hs ha hm hi
        go_simp
        exact HK.out _ _ ⟨upd e 7 true, upd (upd t 12 _) 14 _, rfl, rfl, by rw [upd_self H5.out]; exact HS.out.put ok (i := 7) rfl, HM.out⟩
      | 8, ho, hi, ha =>
        obtain rfl : _ = o := Option.some.inj ho
        have hi : e 8 = false := hi
        have T5 : t 12 = .bool false := hs.val 5 rfl (ha { on := 5, ground := .guard } (by simp) rfl)
        have H5 := Lib.hid T5
        refine wpOp_step (i := 8) rfl (fun K hK => ?_)
        have HK : Shut (∀ a w, _ → K a w) := hK
        clear hK ho
        have HS := Lib.hid hs
        have HM := Lib.hid hm
        have HI := Lib.hid hi
        clear hs ha hm hi
        go_simp
        exact HK.out _ _ ⟨upd e 8 true, upd (upd t 12 _) 15 _, rfl, rfl, by rw [upd_self H5.out]; exact HS.out.put ok (i := 8) rfl, HM.out⟩
      | 9, ho, hi, ha =>
        obtain rfl : _ = o := Option.some.inj ho
        have hi : e 9 = false := hi
        have T5 : t 12 = .bool false := hs.val 5 rfl (ha { on := 5, ground := .guard } (by simp) rfl)
        have H5 := Lib.hid T5
        refine wpOp_step (i := 9) rfl (fun K hK => ?_)
        have HK : Shut (∀ a w, _ → K a w) := hK
        clear hK ho
        have HS := Lib.hid hs
        have HM := Lib.hid hm
        have HI := Lib.hid hi
        clear hs ha hm hi
        go_simp
        exact HK.out _ _ ⟨upd e 9 true, upd (upd t 12 _) 16 _, rfl, rfl, by rw [upd_self H5.out]; exact HS.out.put ok (i := 9) rfl, HM.out⟩
      | 10, ho, hi, ha =>
        obtain rfl : _ = o := Option.some.inj ho
        have hi : e 10 = false := hi
        have T5 : t 12 = .bool false := hs.val 5 rfl (ha { on := 5, ground := .guard } (by simp) rfl)
        have H5 := Lib.hid T5
        refine wpOp_step (i := 10) rfl (fun K hK => ?_)
        have HK : Shut (∀ a w, _ → K a w) := hK
        clear hK ho
        have HS := Lib.hid hs
        have HM := Lib.hid hm
        have HI := Lib.hid hi
        clear hs ha hm hi
        go_simp
        exact HK.out _ _ ⟨upd e 10 true, upd (upd t 12 _) 17 _, rfl, rfl, by rw [upd_self H5.out]; exact HS.out.put ok (i := 10) rfl, HM.out⟩
      | 11, ho, hi, ha =>
        obtain rfl : _ = o := Option.some.inj ho
        have hi : e 11 = false := hi
        have T5 : t 12 = .bool false := hs.val 5 rfl (ha { on := 5, ground := .guard } (by simp) rfl)
        have H5 := Lib.hid T5
        refine wpOp_step (i := 11) rfl (fun K hK => ?_)
        have HK : Shut (∀ a w, _ → K a w) := hK
        clear hK ho
        have HS := Lib.hid hs
        have HM := Lib.hid hm
        have HI := Lib.hid hi
        clear hs ha hm hi
        go_simp
        exact HK.out _ _ ⟨upd e 11 true, upd (upd t 12 _) 18 _, rfl, rfl, by rw [upd_self H5.out]; exact HS.out.put ok (i := 11) rfl, HM.out⟩
      | 12, ho, hi, ha =>
        obtain rfl : _ = o := Option.some.inj ho
        have hi : e 12 = false := hi
        have T5 : t 12 = .bool false := hs.val 5 rfl (ha { on := 5, ground := .guard } (by simp) rfl)
        have H5 := Lib.hid T5
        refine wpOp_step (i := 12) rfl (fun K hK => ?_)
        have HK : Shut (∀ a w, _ → K a w) := hK
        clear hK ho
        have HS := Lib.hid hs
        have HM := Lib.hid hm
        have HI := Lib.hid hi
        clear hs ha hm hi
        go_simp
        exact HK.out _ _ ⟨upd e 12 true, upd (upd t 12 _) 19 _, rfl, rfl, by rw [upd_self H5.out]; exact HS.out.put ok (i := 12) rfl, HM.out⟩
      | 13, ho, hi, ha =>
        obtain rfl : _ = o := Option.some.inj ho
        have hi : e 13 = false := hi
        have T5 : t 12 = .bool false := hs.val 5 rfl (ha { on := 5, ground := .guard } (by simp) rfl)
        have H5 := Lib.hid T5
        refine wpOp_step (i := 13) rfl (fun K hK => ?_)
        have HK : Shut (∀ a w, _ → K a w) := hK
        clear hK ho
        have HS := Lib.hid hs
        have HM := Lib.hid hm
        have HI := Lib.hid hi
        clear hs ha hm hi
        go_simp
        exact HK.out _ _ ⟨upd e 13 true, upd (upd t 12 _) 20 _, rfl, rfl, by rw [upd_self H5.out]; exact HS.out.put ok (i := 13) rfl, HM.out⟩
      | 14, ho, hi, ha =>
        obtain rfl : _ = o := Option.some.inj ho
        have hi : e 14 = false := hi
        have T5 : t 12 = .bool false := hs.val 5 rfl (ha { on := 5, ground := .guard } (by simp) rfl)
        have H5 := Lib.hid T5
        refine wpOp_step (i := 14) rfl (fun K hK => ?_)
        have HK : Shut (∀ a w, _ → K a w) := hK
        clear hK ho
        have HS := Lib.hid hs
        have HM := Lib.hid hm
        have HI := Lib.hid hi
        clear hs ha hm hi
        go_simp
        exact HK.out _ _ ⟨upd e 14 true, upd (upd t 12 _) 21 _, rfl, rfl, by rw [upd_self H5.out]; exact HS.out.put ok (i := 14) rfl, HM.out⟩
      | 15, ho, hi, ha =>
        obtain rfl : _ = o := Option.some.inj ho
        have hi : e 15 = false := hi
        have T5 : t 12 = .bool false := hs.val 5 rfl (ha { on := 5, ground := .guard } (by simp) rfl)
        have H5 := Lib.hid T5
        refine wpOp_step (i := 15) rfl (fun K hK => ?_)
        have HK : Shut (∀ a w, _ → K a w) := hK
        clear hK ho
        have HS := Lib.hid hs
        have HM := Lib.hid hm
        have HI := Lib.hid hi
        clear hs ha hm hi
        go_simp
        exact HK.out _ _ ⟨upd e 15 true, upd (upd t 12 _) 22 _, rfl, rfl, by rw [upd_self H5.out]; exact HS.out.put ok (i := 15) rfl, HM.out⟩
      | 16, ho, hi, ha =>
        obtain rfl : _ = o := Option.some.inj ho
        have hi : e 16 = false := hi
        have T5 : t 12 = .bool false := hs.val 5 rfl (ha { on := 5, ground := .data } (by simp) rfl)
        have H5 := Lib.hid T5
        refine wpOp_step (i := 16) rfl (fun K hK => ?_)
        have HK : Shut (∀ a w, _ → K a w) := hK
        clear hK ho
        have HS := Lib.hid hs
        have HM := Lib.hid hm
        have HI := Lib.hid hi
        clear hs ha hm hi
        go_simp
        exact HK.out _ _ ⟨upd e 16 true, upd (upd t 12 _) 23 _, rfl, rfl, by rw [upd_self H5.out]; exact HS.out.put ok (i := 16) rfl, HM.out⟩
      | k + 17, ho, hi, ha => simp at ho
    case done =>
      rintro lq_ aq_ wr ⟨e, t, rfl, rfl, hs, hm⟩ hr
      have hd := ready_done hr rfl (by decide +kernel)
      have e16 : t 23 = .bool false := hs.val 16 rfl (hd 16 (by decide))
      rw [e16]
      generalize t 7 = u7, t 8 = u8, t 9 = u9, t 10 = u10, t 11 = u11, t 12 = u12, t 13 = u13, t 14 = u14, t 15 = u15, t 16 = u16, t 17 = u17, t 18 = u18, t 19 = u19, t 20 = u20, t 21 = u21, t 22 = u22
      have EE := Lib.hid (E.out _ hm)
      clear hs hm hd hr e16 E
      go_wp2
      go_end0
      exact ⟨rfl, EE.out.1, EE.out.2⟩
end Go.Proofs.Ytiighhcilgjebaa.I
