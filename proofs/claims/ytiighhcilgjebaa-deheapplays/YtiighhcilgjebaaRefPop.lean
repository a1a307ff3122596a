/-
  What the document's Pop does (layer 5): the first or the last of a list, and the list without it.
-/
import Derived.Test.YtiighhcilgjebaaRefPush
namespace Go.Proofs.Ytiighhcilgjebaa
set_option maxRecDepth 100000
open Go.RowKit Go.Sort

/-- What Pop answers. -/
def IsOut (v0 : Value) (x : En) (r : List En) (w : World) (e : Ending) (w' : World) : Prop := ∃ v, e = .returned (.tuple #[entV x, v]) ∧ DocL w' v r ∧ Below w.heap.size w w' ∧ ∀ q, v.ownBlock = some q → v0.ownBlock = some q
theorem rpop_none (w : World) (v : Value) (b : Bool) (h : DocL w v []) : Calls Try.prog 28 #[v, .bool b] w (IsOut v zeroE [] w) := by
  obtain ⟨p, c, rfl, _⟩ := h.at_
  rw [List.length_nil]
  clear h
  go_enter Try.func28, Try.ntmps28
  go_wp2
  exact bodyPost_ret (v := .tuple #[entV zeroE, .slice none 0 0]) (by simp [results, Try.results28, go_sem, entV, zeroE]) rfl ⟨_, rfl, DocL.nil _, (Below.refl _ _).alloc (Nat.le_refl _) _, fun q hq => by cases hq⟩
/-- The memory in Pop's region: with the result stored, or not. -/
structure MPop (w : World) (x : En) (s : Bool) (wr : World) : Prop where
  mk ::
  a : s = false → wr.heap[w.heap.size]? = some (.cells #[.int .i64 0, .int .i64 0, .int .i64 0, .int .i64 0] 35 (0, 0))
  b : s = true → wr.heap[w.heap.size]? = some (.cells #[.int .i64 x.b, .int .i64 x.d, .int .i64 x.s, .int .i64 x.i] 35 (0, 0))
  be : Below w.heap.size w wr
theorem MPop.store {w wr : World} {x : En} {s : Bool} (h : MPop w x s wr) (hs : s = false) : MPop w x true ((((wr.setCell ⟨w.heap.size, 0, none⟩ (.int .i64 x.b)).setCell ⟨w.heap.size, 1, none⟩ (.int .i64 x.d)).setCell ⟨w.heap.size, 2, none⟩ (.int .i64 x.s)).setCell ⟨w.heap.size, 3, none⟩ (.int .i64 x.i)) :=
  ⟨(fun hh => by cases hh), fun _ => set4 (h.a hs), below_set4 h.be (Nat.le_refl _) _ _ _ _⟩
def planPl (b off n m c : Nat) (x : En) : Plan := { ks := [0, 0, 0, 0, 0, 0, 0, 0, 0, 0, 0, 2, 0], ds := [11, 12, 13, 14, 15, 16, 17, 18, 19, 20, 21, 0, 5], vs := [.slice (some ⟨b, off, none⟩) n c, .slice (some ⟨b, off, none⟩) n c, .int .i64 (n : Int), .int .i64 (m : Int), .pointer (some ⟨b, off + m * 4, none⟩), .agg #[.int .i64 x.b, .int .i64 x.d, .int .i64 x.s, .int .i64 x.i], .slice (some ⟨b, off, none⟩) n c, .slice (some ⟨b, off, none⟩) n c, .int .i64 (n : Int), .int .i64 (m : Int), .slice (some ⟨b, off, none⟩) m c, undef, .slice (some ⟨b, off, none⟩) m c], ss := [0, 0, 0, 0, 0, 0, 0, 0, 0, 0, 0, 0, 0], zs := [#[], #[], #[], #[], #[], #[], #[], #[], #[], #[], #[], #[], #[]], fs := [#[], #[], #[], #[], #[], #[], #[], #[], #[], #[], #[], #[], #[]], ts := [0, 0, 0, 0, 0, 0, 0, 0, 0, 0, 0, 0, 0] }
def planPf (b off n m c : Nat) (x : En) : Plan := { ks := [0, 0, 0, 0, 0, 2, 0], ds := [22, 23, 24, 25, 26, 0, 5], vs := [.slice (some ⟨b, off, none⟩) n c, .pointer (some ⟨b, off, none⟩), .agg #[.int .i64 x.b, .int .i64 x.d, .int .i64 x.s, .int .i64 x.i], .slice (some ⟨b, off, none⟩) n c, .slice (if c = 1 then some ⟨b, off, none⟩ else some ⟨b, off + 4, none⟩) m (c - 1), undef, .slice (if c = 1 then some ⟨b, off, none⟩ else some ⟨b, off + 4, none⟩) m (c - 1)], ss := [0, 0, 0, 0, 0, 0, 0], zs := [#[], #[], #[], #[], #[], #[], #[]], fs := [#[], #[], #[], #[], #[], #[], #[]], ts := [0, 0, 0, 0, 0, 0, 0] }
set_option maxHeartbeats 4000000 in
theorem rpop_last (l : List En) (x : En) (hl : l.length ≤ 1000) (v : Value) (w : World) (h : DocL w v (l ++ [x])) : Calls Try.prog 28 #[v, .bool true] w (IsOut v x l w) := by
  have HD := Lib.hid h
  obtain ⟨p, c, rfl, hc0, h3⟩ := h.at_
  obtain ⟨b, off, rfl, ⟨cur, f, hcur⟩, hx⟩ := h3 (by simp)
  have HG := Lib.hid fun w' => h.get (w' := w')
  obtain ⟨m, em⟩ : ∃ m, l.length = m := ⟨_, rfl⟩
  have hlen : (l ++ [x]).length = m + 1 := by simp [em]
  have HC : Hid (∀ w', Below w.heap.size w w' → w'.cell? ⟨b, off + m * 4, none⟩ = some (.int .i64 x.b) ∧ w'.cell? ⟨b, off + m * 4 + 1, none⟩ = some (.int .i64 x.d) ∧ w'.cell? ⟨b, off + m * 4 + 2, none⟩ = some (.int .i64 x.s) ∧ w'.cell? ⟨b, off + m * 4 + 3, none⟩ = some (.int .i64 x.i)) := by
    intro w' hb
    have hbl : b < w.heap.size := (Array.getElem?_eq_some_iff.1 hcur).1
    rw [hb.cell (by exact hbl), hb.cell (by exact hbl), hb.cell (by exact hbl), hb.cell (by exact hbl)]
    have q := hx m (by rw [hlen]; omega)
    rw [← em, nth_append_last, em] at q
    exact q
  have HEM := Lib.hid em
  rw [hlen] at hc0 ⊢
  have F0 : Hid (MPop w x false (w.alloc (.cells #[.int .i64 0, .int .i64 0, .int .i64 0, .int .i64 0] 35)).drew) := ⟨fun _ => heap_alloc_new w _, (fun hh => by cases hh), ((Below.refl _ _).alloc (Nat.le_refl _) _).drew⟩
  rw [em] at hl
  clear h3 hx hcur hlen em h HG
  obtain ⟨n, en⟩ : ∃ n, m + 1 = n := ⟨_, rfl⟩
  rw [en] at hc0 ⊢
  have hn0 : ((n : Int) == 0) = false := by simp; omega
  have hm1 : (n : Int) - 1 = (m : Int) := by omega
  have kw : IntKind.i64.wrap (m : Int) = (m : Int) := by rw [IntKind.wrap_i64]; omega
  have c1 : (0 : Int) ≤ (m : Int) := by omega
  have c2 : (m : Int) < (n : Int) := by omega
  have c3 : (m : Int) ≤ (c : Int) := by omega
  go_enter Try.func28, Try.ntmps28
  go_wp2
  have ok : (planPl b off n m c x).ok = true := rfl
  refine region_inv (Inv := fun lq_ a wr => ∃ (e : Nat → Bool) (t : Nat → Value), lq_ = #[e 0, e 1, e 2, e 3, e 4, e 5, e 6, e 7, e 8, e 9, e 10, e 11, e 12] ∧ a = ⟨#[.slice (some ⟨b, off, none⟩) n c, .bool true, undef, undef, .pointer (some ⟨w.heap.size, 0, none⟩), t 5, .slice (some ⟨b, off, none⟩) n c, .int .i64 (n : Int), .bool false, undef, .bool true, t 11, t 12, t 13, t 14, t 15, t 16, t 17, t 18, t 19, t 20, t 21, undef, undef, undef, undef, undef], []⟩ ∧ Vals (planPl b off n m c x) e t ∧ MPop w x (e 11) wr) (by kernel_rfl) ?step ?start ?done
  case start => exact ⟨fun _ => false, fun j => if j = 5 then .slice none 0 0 else undef, rfl, rfl, Vals.start _ _, F0.out⟩
  case step =>
    rintro lq_ a wr ⟨e, t, rfl, rfl, hs, hm⟩ q_ o ho hi ha
    match q_, ho, hi, ha with
    | 0, ho, hi, ha =>
      obtain rfl : _ = o := Option.some.inj ho
      have hi : e 0 = false := hi
      refine wpOp_step (i := 0) rfl (fun K hK => ?_)
      have HK : Shut (∀ a w, _ → K a w) := hK
      clear hK ho
      have HS := Lib.hid hs
      have HM := Lib.hid hm
      have HI := Lib.hid hi
      clear hs ha hm hi
      go_simp
      exact HK.out _ _ ⟨upd e 0 true, upd t 11 _, rfl, rfl, by exact HS.out.put ok (i := 0) rfl, HM.out⟩
    | 1, ho, hi, ha =>
      obtain rfl : _ = o := Option.some.inj ho
      have hi : e 1 = false := hi
      refine wpOp_step (i := 1) rfl (fun K hK => ?_)
      have HK : Shut (∀ a w, _ → K a w) := hK
      clear hK ho
      have HS := Lib.hid hs
      have HM := Lib.hid hm
      have HI := Lib.hid hi
      clear hs ha hm hi
      go_simp
      exact HK.out _ _ ⟨upd e 1 true, upd t 12 _, rfl, rfl, by exact HS.out.put ok (i := 1) rfl, HM.out⟩
    | 2, ho, hi, ha =>
      obtain rfl : _ = o := Option.some.inj ho
      have hi : e 2 = false := hi
      have T1 : t 12 = .slice (some ⟨b, off, none⟩) n c := hs.val 1 rfl (ha { on := 1, ground := .data } (by simp) rfl)
      have H1 := Lib.hid T1
      refine wpOp_step (i := 2) rfl (fun K hK => ?_)
      have HK : Shut (∀ a w, _ → K a w) := hK
      clear hK ho
      have HS := Lib.hid hs
      have HM := Lib.hid hm
      have HI := Lib.hid hi
      clear hs ha hm hi
      go_simp
      exact HK.out _ _ ⟨upd e 2 true, upd (upd t 12 _) 13 _, rfl, rfl, by rw [upd_self H1.out]; exact HS.out.put ok (i := 2) rfl, HM.out⟩
    | 3, ho, hi, ha =>
      obtain rfl : _ = o := Option.some.inj ho
      have hi : e 3 = false := hi
      have T2 : t 13 = .int .i64 (n : Int) := hs.val 2 rfl (ha { on := 2, ground := .data } (by simp) rfl)
      have H2 := Lib.hid T2
      refine wpOp_step (i := 3) rfl (fun K hK => ?_)
      have HK : Shut (∀ a w, _ → K a w) := hK
      clear hK ho
      have HS := Lib.hid hs
      have HM := Lib.hid hm
      have HI := Lib.hid hi
      clear hs ha hm hi
      go_simp
      exact HK.out _ _ ⟨upd e 3 true, upd (upd t 13 _) 14 _, rfl, rfl, by rw [upd_self H2.out]; exact HS.out.put ok (i := 3) rfl, HM.out⟩
    | 4, ho, hi, ha =>
      obtain rfl : _ = o := Option.some.inj ho
      have hi : e 4 = false := hi
      have T0 : t 11 = .slice (some ⟨b, off, none⟩) n c := hs.val 0 rfl (ha { on := 0, ground := .data } (by simp) rfl)
      have H0 := Lib.hid T0
      have T3 : t 14 = .int .i64 (m : Int) := hs.val 3 rfl (ha { on := 3, ground := .data } (by simp) rfl)
      have H3 := Lib.hid T3
      refine wpOp_step (i := 4) rfl (fun K hK => ?_)
      have HK : Shut (∀ a w, _ → K a w) := hK
      clear hK ho
      have HS := Lib.hid hs
      have HM := Lib.hid hm
      have HI := Lib.hid hi
      clear hs ha hm hi
      go_simp
      exact HK.out _ _ ⟨upd e 4 true, upd (upd (upd t 11 _) 14 _) 15 _, rfl, rfl, by rw [upd_self H0.out, upd_self H3.out]; exact HS.out.put ok (i := 4) rfl, HM.out⟩
    | 5, ho, hi, ha =>
      obtain rfl : _ = o := Option.some.inj ho
      have hi : e 5 = false := hi
      have T4 : t 15 = .pointer (some ⟨b, off + m * 4, none⟩) := hs.val 4 rfl (ha { on := 4, ground := .data } (by simp) rfl)
      have H4 := Lib.hid T4
      obtain ⟨q0, q1, q2, q3⟩ := HC.out _ hm.be
      refine wpOp_step (i := 5) rfl (fun K hK => ?_)
      have HK : Shut (∀ a w, _ → K a w) := hK
      clear hK ho
      have HS := Lib.hid hs
      have HM := Lib.hid hm
      have HI := Lib.hid hi
      clear hs ha hm hi
      go_simp
      exact HK.out _ _ ⟨upd e 5 true, upd (upd t 15 _) 16 _, rfl, rfl, by rw [upd_self H4.out]; exact HS.out.put ok (i := 5) rfl, HM.out⟩
    | 6, ho, hi, ha =>
      obtain rfl : _ = o := Option.some.inj ho
      have hi : e 6 = false := hi
      refine wpOp_step (i := 6) rfl (fun K hK => ?_)
      have HK : Shut (∀ a w, _ → K a w) := hK
      clear hK ho
      have HS := Lib.hid hs
      have HM := Lib.hid hm
      have HI := Lib.hid hi
      clear hs ha hm hi
      go_simp
      exact HK.out _ _ ⟨upd e 6 true, upd t 17 _, rfl, rfl, by exact HS.out.put ok (i := 6) rfl, HM.out⟩
    | 7, ho, hi, ha =>
      obtain rfl : _ = o := Option.some.inj ho
      have hi : e 7 = false := hi
      refine wpOp_step (i := 7) rfl (fun K hK => ?_)
      have HK : Shut (∀ a w, _ → K a w) := hK
      clear hK ho
      have HS := Lib.hid hs
      have HM := Lib.hid hm
      have HI := Lib.hid hi
      clear hs ha hm hi
      go_simp
      exact HK.out _ _ ⟨upd e 7 true, upd t 18 _, rfl, rfl, by exact HS.out.put ok (i := 7) rfl, HM.out⟩
    | 8, ho, hi, ha =>
      obtain rfl : _ = o := Option.some.inj ho
      have hi : e 8 = false := hi
      have T7 : t 18 = .slice (some ⟨b, off, none⟩) n c := hs.val 7 rfl (ha { on := 7, ground := .data } (by simp) rfl)
      have H7 := Lib.hid T7
      refine wpOp_step (i := 8) rfl (fun K hK => ?_)
      have HK : Shut (∀ a w, _ → K a w) := hK
      clear hK ho
      have HS := Lib.hid hs
      have HM := Lib.hid hm
      have HI := Lib.hid hi
      clear hs ha hm hi
      go_simp
      exact HK.out _ _ ⟨upd e 8 true, upd (upd t 18 _) 19 _, rfl, rfl, by rw [upd_self H7.out]; exact HS.out.put ok (i := 8) rfl, HM.out⟩
    | 9, ho, hi, ha =>
      obtain rfl : _ = o := Option.some.inj ho
      have hi : e 9 = false := hi
      have T8 : t 19 = .int .i64 (n : Int) := hs.val 8 rfl (ha { on := 8, ground := .data } (by simp) rfl)
      have H8 := Lib.hid T8
      refine wpOp_step (i := 9) rfl (fun K hK => ?_)
      have HK : Shut (∀ a w, _ → K a w) := hK
      clear hK ho
      have HS := Lib.hid hs
      have HM := Lib.hid hm
      have HI := Lib.hid hi
      clear hs ha hm hi
      go_simp
      exact HK.out _ _ ⟨upd e 9 true, upd (upd t 19 _) 20 _, rfl, rfl, by rw [upd_self H8.out]; exact HS.out.put ok (i := 9) rfl, HM.out⟩
    | 10, ho, hi, ha =>
      obtain rfl : _ = o := Option.some.inj ho
      have hi : e 10 = false := hi
      have T6 : t 17 = .slice (some ⟨b, off, none⟩) n c := hs.val 6 rfl (ha { on := 6, ground := .data } (by simp) rfl)
      have H6 := Lib.hid T6
      have T9 : t 20 = .int .i64 (m : Int) := hs.val 9 rfl (ha { on := 9, ground := .data } (by simp) rfl)
      have H9 := Lib.hid T9
      refine wpOp_step (i := 10) rfl (fun K hK => ?_)
      have HK : Shut (∀ a w, _ → K a w) := hK
      clear hK ho
      have HS := Lib.hid hs
      have HM := Lib.hid hm
      have HI := Lib.hid hi
      clear hs ha hm hi
      go_simp
      exact HK.out _ _ ⟨upd e 10 true, upd (upd (upd t 17 _) 20 _) 21 _, rfl, rfl, by rw [upd_self H6.out, upd_self H9.out]; exact HS.out.put ok (i := 10) rfl, HM.out⟩
    | 11, ho, hi, ha =>
      obtain rfl : _ = o := Option.some.inj ho
      have hi : e 11 = false := hi
      have T5 : t 16 = .agg #[.int .i64 x.b, .int .i64 x.d, .int .i64 x.s, .int .i64 x.i] := hs.val 5 rfl (ha { on := 5, ground := .data } (by simp) rfl)
      have H5 := Lib.hid T5
      obtain ⟨q0, q1, q2, q3, f0, f1, f2, f3, qz⟩ := cells4 (hm.a hi)
      refine wpOp_step (i := 11) rfl (fun K hK => ?_)
      have HK : Shut (∀ a w, _ → K a w) := hK
      clear hK ho
      have HS := Lib.hid hs
      have HM := Lib.hid hm
      have HI := Lib.hid hi
      clear hs ha hm hi
      go_simp
      exact HK.out _ _ ⟨upd e 11 true, (upd t 16 _), rfl, rfl, by rw [upd_self H5.out]; exact HS.out.skip (i := 11) rfl, HM.out.store HI.out⟩
    | 12, ho, hi, ha =>
      obtain rfl : _ = o := Option.some.inj ho
      have hi : e 12 = false := hi
      have T10 : t 21 = .slice (some ⟨b, off, none⟩) m c := hs.val 10 rfl (ha { on := 10, ground := .data } (by simp) rfl)
      have H10 := Lib.hid T10
      refine wpOp_step (i := 12) rfl (fun K hK => ?_)
      have HK : Shut (∀ a w, _ → K a w) := hK
      clear hK ho
      have HS := Lib.hid hs
      have HM := Lib.hid hm
      have HI := Lib.hid hi
      clear hs ha hm hi
      go_simp
      exact HK.out _ _ ⟨upd e 12 true, upd (upd t 21 _) 5 _, rfl, rfl, by rw [upd_self H10.out]; exact HS.out.put ok (i := 12) rfl, HM.out⟩
    | k + 13, ho, hi, ha => simp at ho
  case done =>
    rintro lq_ a wr ⟨e, t, rfl, rfl, hs, hm⟩ hr
    have hd := ready_done hr rfl (by decide +kernel)
    have e11 : e 11 = true := hd 11 (by decide)
    have e12 : e 12 = true := hd 12 (by decide)
    have t5 : t 5 = .slice (some ⟨b, off, none⟩) m c := hs.val 12 rfl e12
    rw [t5]
    obtain ⟨r0, r1, r2, r3, _, _, _, _, _⟩ := cells4 (hm.b e11)
    have HB := Lib.hid hm.be
    have E : Hid (DocL wr (.slice (some ⟨b, off, none⟩) m c) l) := by
      obtain ⟨p, c', e1, _, h3⟩ := (HD.out.next hm.be).at_
      obtain ⟨b', off', e2, ⟨cur, f, h4⟩, h5⟩ := h3 (by simp)
      simp at e1
      obtain ⟨e1a, e1b⟩ := e1
      rw [e2] at e1a
      simp at e1a
      obtain ⟨rfl, rfl⟩ := e1a
      refine ⟨_, _, by rw [HEM.out], by rw [HEM.out]; omega, fun h0 => ⟨b, off, rfl, ⟨cur, f, h4⟩, fun i hi => ?_⟩⟩
      have q := h5 i (by simp; omega)
      rw [nth_append_left hi] at q
      exact q
    generalize t 11 = u11, t 12 = u12, t 13 = u13, t 14 = u14, t 15 = u15, t 16 = u16, t 17 = u17, t 18 = u18, t 19 = u19, t 20 = u20, t 21 = u21
    clear hs hd hr hm e11 e12 t5 HD HC F0
    go_wp2
    exact bodyPost_ret (v := .tuple #[entV x, .slice (some ⟨b, off, none⟩) m c]) (by simp [results, Try.results28, go_sem, entV, r0, r1, r2, r3]) rfl ⟨_, rfl, E.out, HB.out, fun q hq => hq⟩
set_option maxHeartbeats 4000000 in
theorem rpop_first (l : List En) (x : En) (hl : l.length ≤ 1000) (v : Value) (w : World) (h : DocL w v (x :: l)) : Calls Try.prog 28 #[v, .bool false] w (IsOut v x l w) := by
  have HD := Lib.hid h
  obtain ⟨p, c, rfl, hc0, h3⟩ := h.at_
  obtain ⟨b, off, rfl, ⟨cur, f, hcur⟩, hx⟩ := h3 (by simp)
  have HG := Lib.hid fun w' => h.get (w' := w')
  obtain ⟨m, em⟩ : ∃ m, l.length = m := ⟨_, rfl⟩
  have hlen : (x :: l).length = m + 1 := by simp [em]
  have HC : Hid (∀ w', Below w.heap.size w w' → w'.cell? ⟨b, off, none⟩ = some (.int .i64 x.b) ∧ w'.cell? ⟨b, off + 1, none⟩ = some (.int .i64 x.d) ∧ w'.cell? ⟨b, off + 2, none⟩ = some (.int .i64 x.s) ∧ w'.cell? ⟨b, off + 3, none⟩ = some (.int .i64 x.i)) := by
    intro w' hb
    have hbl : b < w.heap.size := (Array.getElem?_eq_some_iff.1 hcur).1
    rw [hb.cell (by exact hbl), hb.cell (by exact hbl), hb.cell (by exact hbl), hb.cell (by exact hbl)]
    have q := hx 0 (by rw [hlen]; omega)
    rw [Nat.zero_mul, Nat.add_zero] at q
    exact q
  have HEM := Lib.hid em
  rw [hlen] at hc0 ⊢
  have F0 : Hid (MPop w x false (w.alloc (.cells #[.int .i64 0, .int .i64 0, .int .i64 0, .int .i64 0] 35)).drew) := ⟨fun _ => heap_alloc_new w _, (fun hh => by cases hh), ((Below.refl _ _).alloc (Nat.le_refl _) _).drew⟩
  rw [em] at hl
  clear h3 hx hcur hlen em h HG
  obtain ⟨n, en⟩ : ∃ n, m + 1 = n := ⟨_, rfl⟩
  rw [en] at hc0 ⊢
  have hn0 : ((n : Int) == 0) = false := by simp; omega
  have c2 : (0 : Int) < (n : Int) := by omega
  have c3 : (1 : Int) ≤ (n : Int) := by omega
  have c4 : (n : Int) ≤ (c : Int) := by omega
  have c5 : n - 1 = m := by omega
  have c6 : 0 < n := by omega
  go_enter Try.func28, Try.ntmps28
  go_wp2
  have ok : (planPf b off n m c x).ok = true := rfl
  refine region_inv (Inv := fun lq_ a wr => ∃ (e : Nat → Bool) (t : Nat → Value), lq_ = #[e 0, e 1, e 2, e 3, e 4, e 5, e 6] ∧ a = ⟨#[.slice (some ⟨b, off, none⟩) n c, .bool false, undef, undef, .pointer (some ⟨w.heap.size, 0, none⟩), t 5, .slice (some ⟨b, off, none⟩) n c, .int .i64 (n : Int), .bool false, undef, .bool false, undef, undef, undef, undef, undef, undef, undef, undef, undef, undef, undef, t 22, t 23, t 24, t 25, t 26], []⟩ ∧ Vals (planPf b off n m c x) e t ∧ MPop w x (e 5) wr) (by kernel_rfl) ?step ?start ?done
  case start => exact ⟨fun _ => false, fun j => if j = 5 then .slice none 0 0 else undef, rfl, rfl, Vals.start _ _, F0.out⟩
  case step =>
    rintro lq_ a wr ⟨e, t, rfl, rfl, hs, hm⟩ q_ o ho hi ha
    match q_, ho, hi, ha with
    | 0, ho, hi, ha =>
      obtain rfl : _ = o := Option.some.inj ho
      have hi : e 0 = false := hi
      refine wpOp_step (i := 0) rfl (fun K hK => ?_)
      have HK : Shut (∀ a w, _ → K a w) := hK
      clear hK ho
      have HS := Lib.hid hs
      have HM := Lib.hid hm
      have HI := Lib.hid hi
      clear hs ha hm hi
      go_simp
      exact HK.out _ _ ⟨upd e 0 true, upd t 22 _, rfl, rfl, by exact HS.out.put ok (i := 0) rfl, HM.out⟩
    | 1, ho, hi, ha =>
      obtain rfl : _ = o := Option.some.inj ho
      have hi : e 1 = false := hi
      have T0 : t 22 = .slice (some ⟨b, off, none⟩) n c := hs.val 0 rfl (ha { on := 0, ground := .data } (by simp) rfl)
      have H0 := Lib.hid T0
      refine wpOp_step (i := 1) rfl (fun K hK => ?_)
      have HK : Shut (∀ a w, _ → K a w) := hK
      clear hK ho
      have HS := Lib.hid hs
      have HM := Lib.hid hm
      have HI := Lib.hid hi
      clear hs ha hm hi
      go_simp
      exact HK.out _ _ ⟨upd e 1 true, upd (upd t 22 _) 23 _, rfl, rfl, by rw [upd_self H0.out]; exact HS.out.put ok (i := 1) rfl, HM.out⟩
    | 2, ho, hi, ha =>
      obtain rfl : _ = o := Option.some.inj ho
      have hi : e 2 = false := hi
      have T1 : t 23 = .pointer (some ⟨b, off, none⟩) := hs.val 1 rfl (ha { on := 1, ground := .data } (by simp) rfl)
      have H1 := Lib.hid T1
      obtain ⟨q0, q1, q2, q3⟩ := HC.out _ hm.be
      refine wpOp_step (i := 2) rfl (fun K hK => ?_)
      have HK : Shut (∀ a w, _ → K a w) := hK
      clear hK ho
      have HS := Lib.hid hs
      have HM := Lib.hid hm
      have HI := Lib.hid hi
      clear hs ha hm hi
      go_simp
      exact HK.out _ _ ⟨upd e 2 true, upd (upd t 23 _) 24 _, rfl, rfl, by rw [upd_self H1.out]; exact HS.out.put ok (i := 2) rfl, HM.out⟩
    | 3, ho, hi, ha =>
      obtain rfl : _ = o := Option.some.inj ho
      have hi : e 3 = false := hi
      refine wpOp_step (i := 3) rfl (fun K hK => ?_)
      have HK : Shut (∀ a w, _ → K a w) := hK
      clear hK ho
      have HS := Lib.hid hs
      have HM := Lib.hid hm
      have HI := Lib.hid hi
      clear hs ha hm hi
      go_simp
      exact HK.out _ _ ⟨upd e 3 true, upd t 25 _, rfl, rfl, by exact HS.out.put ok (i := 3) rfl, HM.out⟩
    | 4, ho, hi, ha =>
      obtain rfl : _ = o := Option.some.inj ho
      have hi : e 4 = false := hi
      have T3 : t 25 = .slice (some ⟨b, off, none⟩) n c := hs.val 3 rfl (ha { on := 3, ground := .data } (by simp) rfl)
      have H3 := Lib.hid T3
      refine wpOp_step (i := 4) rfl (fun K hK => ?_)
      have HK : Shut (∀ a w, _ → K a w) := hK
      clear hK ho
      have HS := Lib.hid hs
      have HM := Lib.hid hm
      have HI := Lib.hid hi
      clear hs ha hm hi
      go_simp
      exact HK.out _ _ ⟨upd e 4 true, upd (upd t 25 _) 26 _, rfl, rfl, by rw [upd_self H3.out]; exact HS.out.put ok (i := 4) rfl, HM.out⟩
    | 5, ho, hi, ha =>
      obtain rfl : _ = o := Option.some.inj ho
      have hi : e 5 = false := hi
      have T2 : t 24 = .agg #[.int .i64 x.b, .int .i64 x.d, .int .i64 x.s, .int .i64 x.i] := hs.val 2 rfl (ha { on := 2, ground := .data } (by simp) rfl)
      have H2 := Lib.hid T2
      obtain ⟨q0, q1, q2, q3, f0, f1, f2, f3, qz⟩ := cells4 (hm.a hi)
      refine wpOp_step (i := 5) rfl (fun K hK => ?_)
      have HK : Shut (∀ a w, _ → K a w) := hK
      clear hK ho
      have HS := Lib.hid hs
      have HM := Lib.hid hm
      have HI := Lib.hid hi
      clear hs ha hm hi
      go_simp
      exact HK.out _ _ ⟨upd e 5 true, (upd t 24 _), rfl, rfl, by rw [upd_self H2.out]; exact HS.out.skip (i := 5) rfl, HM.out.store HI.out⟩
    | 6, ho, hi, ha =>
      obtain rfl : _ = o := Option.some.inj ho
      have hi : e 6 = false := hi
      have T4 : t 26 = .slice (if c = 1 then some ⟨b, off, none⟩ else some ⟨b, off + 4, none⟩) m (c - 1) := hs.val 4 rfl (ha { on := 4, ground := .data } (by simp) rfl)
      have H4 := Lib.hid T4
      refine wpOp_step (i := 6) rfl (fun K hK => ?_)
      have HK : Shut (∀ a w, _ → K a w) := hK
      clear hK ho
      have HS := Lib.hid hs
      have HM := Lib.hid hm
      have HI := Lib.hid hi
      clear hs ha hm hi
      go_simp
      exact HK.out _ _ ⟨upd e 6 true, upd (upd t 26 _) 5 _, rfl, rfl, by rw [upd_self H4.out]; exact HS.out.put ok (i := 6) rfl, HM.out⟩
    | k + 7, ho, hi, ha => simp at ho
  case done =>
    rintro lq_ a wr ⟨e, t, rfl, rfl, hs, hm⟩ hr
    have hd := ready_done hr rfl (by decide +kernel)
    have e5 : e 5 = true := hd 5 (by decide)
    have e6 : e 6 = true := hd 6 (by decide)
    have t5 : t 5 = .slice (if c = 1 then some ⟨b, off, none⟩ else some ⟨b, off + 4, none⟩) m (c - 1) := hs.val 6 rfl e6
    rw [t5]
    obtain ⟨r0, r1, r2, r3, _, _, _, _, _⟩ := cells4 (hm.b e5)
    have HB := Lib.hid hm.be
    have E : Hid (DocL wr (.slice (if c = 1 then some ⟨b, off, none⟩ else some ⟨b, off + 4, none⟩) m (c - 1)) l) := by
      obtain ⟨p, c', e1, _, h3⟩ := (HD.out.next hm.be).at_
      obtain ⟨b', off', e2, ⟨cur, f, h4⟩, h5⟩ := h3 (by simp)
      simp at e1
      obtain ⟨e1a, e1b⟩ := e1
      rw [e2] at e1a
      simp at e1a
      obtain ⟨rfl, rfl⟩ := e1a
      refine ⟨_, _, by rw [HEM.out], by rw [HEM.out]; omega, fun h0 => ⟨b, off + 4, by rw [HEM.out] at h0; rw [if_neg (by omega)], ⟨cur, f, h4⟩, fun i hi => ?_⟩⟩
      have q := h5 (i + 1) (by simp; omega)
      rw [show off + (i + 1) * 4 = off + 4 + i * 4 by omega] at q
      exact q
    generalize t 22 = u22, t 23 = u23, t 24 = u24, t 25 = u25, t 26 = u26
    clear hs hd hr hm e5 e6 t5 HD HC F0
    have HQ : Hid (∀ q, (Value.slice (if c = 1 then some (⟨b, off, none⟩ : Addr) else some ⟨b, off + 4, none⟩) m (c - 1)).ownBlock = some q → (Value.slice (some ⟨b, off, none⟩) n c).ownBlock = some q) := by
      show ∀ q, _
      split <;> exact fun q h => h
    generalize (if c = 1 then some (⟨b, off, none⟩ : Addr) else some ⟨b, off + 4, none⟩) = pq at *
    go_wp2
    exact bodyPost_ret (v := .tuple #[entV x, .slice pq m (c - 1)]) (by simp [results, Try.results28, go_sem, entV, r0, r1, r2, r3]) rfl ⟨_, rfl, E.out, HB.out, HQ.out⟩
end Go.Proofs.Ytiighhcilgjebaa
