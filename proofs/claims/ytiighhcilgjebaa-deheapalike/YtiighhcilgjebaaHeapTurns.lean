/-
  What the calls that turn a heap do (layer 5): take, PopMin, PopMax, Push.
-/
import Derived.Test.YtiighhcilgjebaaHeapCalls
import Derived.StillTailTactics
import Derived.Deep.CutRange
namespace Go.Proofs.Ytiighhcilgjebaa
set_option maxRecDepth 100000
open Go.RowKit Go.Sort

abbrev TkSt := TkStT 97

/-- What take leaves. -/
structure Took (B hb g c lo i : Nat) (l : List En) (w w' : World) (l' : List En) : Prop where
  mk ::
  at_ : HeapAt w' B hb (.slice (some ⟨g, 0, none⟩) (l.length - 1) c) l'
  off : Off w hb (.slice (some ⟨g, 0, none⟩) l.length c) w'
  sunk : i < l.length - 1 → Same lo (tak l i) l' ∧ ∀ j, lo ≤ j → Loc l' j
  end_ : i = l.length - 1 → l' = tak l i
def IsTaken (B hb g c lo i : Nat) (l : List En) (w : World) (e : Ending) (w' : World) : Prop :=
  ∃ l', e = .returned (entV (nth l i)) ∧ Took B hb g c lo i l w w' l'
def planTk (hb gr ix m n c : Nat) (x : En) : Plan := { ks := [0, 0, 0, 0, 0, 0, 0, 0, 0, 0, 0, 0, 0, 1, 2, 0], ds := [7, 8, 9, 10, 11, 12, 13, 14, 15, 16, 17, 18, 19, 5, 0, 6], vs := [.pointer (some ⟨hb, 0, none⟩), .pointer (some ⟨hb, 0, none⟩), .pointer (some ⟨hb, 0, none⟩), .slice (some ⟨gr, 0, none⟩) n c, .int .i64 (ix : Int), .pointer (some ⟨gr, ix * 4, none⟩), .agg #[.int .i64 x.b, .int .i64 x.d, .int .i64 x.s, .int .i64 x.i], .pointer (some ⟨hb, 0, none⟩), .pointer (some ⟨hb, 0, none⟩), .pointer (some ⟨hb, 0, none⟩), .slice (some ⟨gr, 0, none⟩) n c, .int .i64 (n : Int), .int .i64 (m : Int), undef, undef, .int .i64 (m : Int)], ss := [0, 0, 0, 0, 0, 0, 0, 0, 0, 0, 0, 0, 0, 14, 0, 0], zs := [#[], #[], #[], #[], #[], #[], #[], #[], #[], #[], #[], #[], #[], #[.int .i64 0, .int .i64 0, .int .i64 0, .int .i64 0], #[], #[]], fs := [#[], #[], #[], #[], #[], #[], #[], #[], #[], #[], #[], #[], #[], #[.int .i64 x.b, .int .i64 x.d, .int .i64 x.s, .int .i64 x.i], #[], #[]], ts := [0, 0, 0, 0, 0, 0, 0, 0, 0, 0, 0, 0, 0, 32, 0, 0] }
set_option maxHeartbeats 4000000 in
theorem take_any (l : List En) (hl : l.length ≤ 1000) (B hb gr c lo ix : Nat) (w : World) (hi : ix < l.length) (h : HeapAt w B hb (.slice (some ⟨gr, 0, none⟩) l.length c) l) (hs : ix < l.length - 1 → Snk lo (tak l ix) ix) :
    Calls Try.prog 120 #[.pointer (some ⟨hb, 0, none⟩), .int .i64 (ix : Int)] w (IsTaken B hb gr c lo ix l w) := by
  obtain ⟨n, en⟩ : ∃ n, l.length = n := ⟨_, rfl⟩
  obtain ⟨m, em⟩ : ∃ m : Nat, n = m + 1 := ⟨n - 1, by omega⟩
  have hL := own_list h.row
  have hml : m < l.length := by omega
  obtain ⟨x0, x1, x2, x3⟩ := hL.nth hi
  obtain ⟨y0, y1, y2, y3⟩ := hL.nth hml
  obtain ⟨x, ex⟩ : ∃ x, nth l ix = x := ⟨_, rfl⟩
  obtain ⟨y, ey⟩ : ∃ y, nth l m = y := ⟨_, rfl⟩
  rw [ex] at x0 x1 x2 x3
  rw [ey] at y0 y1 y2 y3
  have w1B : Below w.heap.size w (w.alloc (.cells #[.int .i64 0, .int .i64 0, .int .i64 0, .int .i64 0] 32)) := (Below.refl _ _).alloc (Nat.le_refl _) _
  have HH := Lib.hid h
  have hlt := h.lt
  have hg := (h.row.lt gr rfl).2
  have HC : Hid (CBox hb (.slice (some ⟨gr, 0, none⟩) n c) (w.alloc (.cells #[.int .i64 0, .int .i64 0, .int .i64 0, .int .i64 0] 32))) := CBox.next ⟨by rw [← en]; exact h.cell, hlt⟩ w1B
  have HX : Hid (IBox gr ix x (w.alloc (.cells #[.int .i64 0, .int .i64 0, .int .i64 0, .int .i64 0] 32))) := IBox.next ⟨x0, x1, x2, x3, hg⟩ w1B
  have HEX := Lib.hid ex
  have HEY := Lib.hid ey
  have HEN := Lib.hid en
  have HSN := Lib.hid hs
  have HWB := Lib.hid w1B
  have kw : IntKind.i64.wrap ((n : Int) - 1) = (m : Int) := by rw [IntKind.wrap_i64]; omega
  have c01 : (0 : Int) ≤ (ix : Int) := by omega
  have c02 : (ix : Int) < (n : Int) := by omega
  have c03 : (0 : Int) ≤ (m : Int) := by omega
  have c04 : (m : Int) < (n : Int) := by omega
  rw [en] at hi hl hml
  have hsz : (w.alloc (.cells #[.int .i64 0, .int .i64 0, .int .i64 0, .int .i64 0] 32)).heap.size = w.heap.size + 1 := by simp
  have HSZ := Lib.hid hsz
  have HN1 := Lib.hid (heap_alloc_new w (.cells #[.int .i64 0, .int .i64 0, .int .i64 0, .int .i64 0] 32))
  have HEM := Lib.hid em
  have hnm : n ≤ m + 1 := by omega
  clear em en h hs w1B x0 x1 x2 x3 y0 y1 y2 y3 hL ex ey hsz
  go_enter Try.func120, Try.ntmps120
  go_wp2
  generalize (w.alloc (.cells #[.int .i64 0, .int .i64 0, .int .i64 0, .int .i64 0] 32)) = w1 at *
  have ok : (planTk hb gr ix m n c x).ok = true := rfl
  refine region_inv (Inv := fun l a wr => ∃ (e : Nat → Bool) (t : Nat → Value) (g : Nat → Nat), l = #[e 0, e 1, e 2, e 3, e 4, e 5, e 6, e 7, e 8, e 9, e 10, e 11, e 12, e 13, e 14, e 15] ∧ a = ⟨#[.pointer (some ⟨hb, 0, none⟩), .int .i64 (ix : Int), undef, undef, .pointer (some ⟨w.heap.size, 0, none⟩), t 5, t 6, t 7, t 8, t 9, t 10, t 11, t 12, t 13, t 14, t 15, t 16, t 17, t 18, t 19, undef, undef, undef, undef, undef, undef, undef, undef, undef, undef, undef, undef, undef, undef, undef, undef, undef, undef, undef, undef, undef, undef, undef, undef, undef, undef, undef, undef, undef, undef, undef, undef], []⟩ ∧ Stage (planTk hb gr ix m n c x) w1 e t g wr) (by kernel_rfl) ?step ?start ?done
  case start => exact ⟨fun _ => false, fun _ => undef, fun _ => 0, rfl, rfl, Stage.start _ _ _ _⟩
  case step =>
    rintro l a wr ⟨e, t, g, rfl, rfl, hs⟩ i o ho hi ha
    match i, ho, hi, ha with
    | 0, ho, hi, ha =>
      obtain rfl : _ = o := Option.some.inj ho
      refine wpOp_step (i := 0) rfl (fun K hK => ?_)
      have HK : Shut (∀ a w, _ → K a w) := hK
      clear hK ho
      have HS := Lib.hid hs
      clear hs ha hi
      go_simp
      exact HK.out _ _ ⟨upd e 0 true, upd t 7 _, g, rfl, rfl, by exact HS.out.vals ok (i := 0) rfl⟩
    | 1, ho, hi, ha =>
      obtain rfl : _ = o := Option.some.inj ho
      have T0 : t 7 = .pointer (some ⟨hb, 0, none⟩) := hs.val 0 rfl (ha { on := 0, ground := .data } (by simp) rfl)
      have H0 := Lib.hid T0
      refine wpOp_step (i := 1) rfl (fun K hK => ?_)
      have HK : Shut (∀ a w, _ → K a w) := hK
      clear hK ho
      have HS := Lib.hid hs
      clear hs ha hi
      go_simp
      exact HK.out _ _ ⟨upd e 1 true, upd (upd t 7 _) 8 _, g, rfl, rfl, by rw [upd_self H0.out]; exact HS.out.vals ok (i := 1) rfl⟩
    | 2, ho, hi, ha =>
      obtain rfl : _ = o := Option.some.inj ho
      have T1 : t 8 = .pointer (some ⟨hb, 0, none⟩) := hs.val 1 rfl (ha { on := 1, ground := .data } (by simp) rfl)
      have H1 := Lib.hid T1
      refine wpOp_step (i := 2) rfl (fun K hK => ?_)
      have HK : Shut (∀ a w, _ → K a w) := hK
      clear hK ho
      have HS := Lib.hid hs
      clear hs ha hi
      go_simp
      exact HK.out _ _ ⟨upd e 2 true, upd (upd t 8 _) 9 _, g, rfl, rfl, by rw [upd_self H1.out]; exact HS.out.vals ok (i := 2) rfl⟩
    | 3, ho, hi, ha =>
      obtain rfl : _ = o := Option.some.inj ho
      have T2 : t 9 = .pointer (some ⟨hb, 0, none⟩) := hs.val 2 rfl (ha { on := 2, ground := .data } (by simp) rfl)
      have H2 := Lib.hid T2
      refine wpOp_step (i := 3) rfl (fun K hK => ?_)
      have HK : Shut (∀ a w, _ → K a w) := hK
      clear hK ho
      obtain ⟨c0, cz⟩ := HC.out.next hs.be
      have HS := Lib.hid hs
      clear hs ha hi
      go_simp
      exact HK.out _ _ ⟨upd e 3 true, upd (upd t 9 _) 10 _, g, rfl, rfl, by rw [upd_self H2.out]; exact HS.out.vals ok (i := 3) rfl⟩
    | 4, ho, hi, ha =>
      obtain rfl : _ = o := Option.some.inj ho
      refine wpOp_step (i := 4) rfl (fun K hK => ?_)
      have HK : Shut (∀ a w, _ → K a w) := hK
      clear hK ho
      have HS := Lib.hid hs
      clear hs ha hi
      go_simp
      exact HK.out _ _ ⟨upd e 4 true, upd t 11 _, g, rfl, rfl, by exact HS.out.vals ok (i := 4) rfl⟩
    | 5, ho, hi, ha =>
      obtain rfl : _ = o := Option.some.inj ho
      have T3 : t 10 = .slice (some ⟨gr, 0, none⟩) n c := hs.val 3 rfl (ha { on := 3, ground := .data } (by simp) rfl)
      have H3 := Lib.hid T3
      have T4 : t 11 = .int .i64 (ix : Int) := hs.val 4 rfl (ha { on := 4, ground := .data } (by simp) rfl)
      have H4 := Lib.hid T4
      refine wpOp_step (i := 5) rfl (fun K hK => ?_)
      have HK : Shut (∀ a w, _ → K a w) := hK
      clear hK ho
      have HS := Lib.hid hs
      clear hs ha hi
      go_simp
      exact HK.out _ _ ⟨upd e 5 true, upd (upd (upd t 10 _) 11 _) 12 _, g, rfl, rfl, by rw [upd_self H3.out, upd_self H4.out]; exact HS.out.vals ok (i := 5) rfl⟩
    | 6, ho, hi, ha =>
      obtain rfl : _ = o := Option.some.inj ho
      have T5 : t 12 = .pointer (some ⟨gr, ix * 4, none⟩) := hs.val 5 rfl (ha { on := 5, ground := .data } (by simp) rfl)
      have H5 := Lib.hid T5
      refine wpOp_step (i := 6) rfl (fun K hK => ?_)
      have HK : Shut (∀ a w, _ → K a w) := hK
      clear hK ho
      obtain ⟨c0, c1, c2, c3, cz⟩ := HX.out.next hs.be
      have HS := Lib.hid hs
      clear hs ha hi
      go_simp
      exact HK.out _ _ ⟨upd e 6 true, upd (upd t 12 _) 13 _, g, rfl, rfl, by rw [upd_self H5.out]; exact HS.out.vals ok (i := 6) rfl⟩
    | 7, ho, hi, ha =>
      obtain rfl : _ = o := Option.some.inj ho
      refine wpOp_step (i := 7) rfl (fun K hK => ?_)
      have HK : Shut (∀ a w, _ → K a w) := hK
      clear hK ho
      have HS := Lib.hid hs
      clear hs ha hi
      go_simp
      exact HK.out _ _ ⟨upd e 7 true, upd t 14 _, g, rfl, rfl, by exact HS.out.vals ok (i := 7) rfl⟩
    | 8, ho, hi, ha =>
      obtain rfl : _ = o := Option.some.inj ho
      have T7 : t 14 = .pointer (some ⟨hb, 0, none⟩) := hs.val 7 rfl (ha { on := 7, ground := .data } (by simp) rfl)
      have H7 := Lib.hid T7
      refine wpOp_step (i := 8) rfl (fun K hK => ?_)
      have HK : Shut (∀ a w, _ → K a w) := hK
      clear hK ho
      have HS := Lib.hid hs
      clear hs ha hi
      go_simp
      exact HK.out _ _ ⟨upd e 8 true, upd (upd t 14 _) 15 _, g, rfl, rfl, by rw [upd_self H7.out]; exact HS.out.vals ok (i := 8) rfl⟩
    | 9, ho, hi, ha =>
      obtain rfl : _ = o := Option.some.inj ho
      have T8 : t 15 = .pointer (some ⟨hb, 0, none⟩) := hs.val 8 rfl (ha { on := 8, ground := .data } (by simp) rfl)
      have H8 := Lib.hid T8
      refine wpOp_step (i := 9) rfl (fun K hK => ?_)
      have HK : Shut (∀ a w, _ → K a w) := hK
      clear hK ho
      have HS := Lib.hid hs
      clear hs ha hi
      go_simp
      exact HK.out _ _ ⟨upd e 9 true, upd (upd t 15 _) 16 _, g, rfl, rfl, by rw [upd_self H8.out]; exact HS.out.vals ok (i := 9) rfl⟩
    | 10, ho, hi, ha =>
      obtain rfl : _ = o := Option.some.inj ho
      have T9 : t 16 = .pointer (some ⟨hb, 0, none⟩) := hs.val 9 rfl (ha { on := 9, ground := .data } (by simp) rfl)
      have H9 := Lib.hid T9
      refine wpOp_step (i := 10) rfl (fun K hK => ?_)
      have HK : Shut (∀ a w, _ → K a w) := hK
      clear hK ho
      obtain ⟨c0, cz⟩ := HC.out.next hs.be
      have HS := Lib.hid hs
      clear hs ha hi
      go_simp
      exact HK.out _ _ ⟨upd e 10 true, upd (upd t 16 _) 17 _, g, rfl, rfl, by rw [upd_self H9.out]; exact HS.out.vals ok (i := 10) rfl⟩
    | 11, ho, hi, ha =>
      obtain rfl : _ = o := Option.some.inj ho
      have T10 : t 17 = .slice (some ⟨gr, 0, none⟩) n c := hs.val 10 rfl (ha { on := 10, ground := .data } (by simp) rfl)
      have H10 := Lib.hid T10
      refine wpOp_step (i := 11) rfl (fun K hK => ?_)
      have HK : Shut (∀ a w, _ → K a w) := hK
      clear hK ho
      have HS := Lib.hid hs
      clear hs ha hi
      go_simp
      exact HK.out _ _ ⟨upd e 11 true, upd (upd t 17 _) 18 _, g, rfl, rfl, by rw [upd_self H10.out]; exact HS.out.vals ok (i := 11) rfl⟩
    | 12, ho, hi, ha =>
      obtain rfl : _ = o := Option.some.inj ho
      have T11 : t 18 = .int .i64 (n : Int) := hs.val 11 rfl (ha { on := 11, ground := .data } (by simp) rfl)
      have H11 := Lib.hid T11
      refine wpOp_step (i := 12) rfl (fun K hK => ?_)
      have HK : Shut (∀ a w, _ → K a w) := hK
      clear hK ho
      have HS := Lib.hid hs
      clear hs ha hi
      go_simp
      exact HK.out _ _ ⟨upd e 12 true, upd (upd t 18 _) 19 _, g, rfl, rfl, by rw [upd_self H11.out]; exact HS.out.vals ok (i := 12) rfl⟩
    | 13, ho, hi, ha =>
      obtain rfl : _ = o := Option.some.inj ho
      have hi : e 13 = false := hi
      refine wpOp_step (i := 13) rfl (fun K hK => ?_)
      have HK : Shut (∀ a w, _ → K a w) := hK
      clear hK ho
      have HS := Lib.hid hs
      have HI := Lib.hid hi
      clear hs ha hi
      go_simp
      exact HK.out _ _ ⟨upd e 13 true, upd t 5 _, upd g 13 _, rfl, rfl, HS.out.alloc ok (i := 13) rfl HI.out⟩
    | 14, ho, hi, ha =>
      obtain rfl : _ = o := Option.some.inj ho
      have hs0 : e 14 = false := hi
      have hea : e 13 = true := ha { on := 13, ground := .data } (by simp) rfl
      have t1 : t 5 = .pointer (some ⟨g 13, 0, none⟩) := (hs.box 13 rfl hea).1
      have t2 : t 13 = .agg #[.int .i64 x.b, .int .i64 x.d, .int .i64 x.s, .int .i64 x.i] := hs.val 6 rfl (ha { on := 6, ground := .data } (by simp) rfl)
      have T1 := Lib.hid t1
      have T2 := Lib.hid t2
      have hc : wr.heap[g 13]? = some (.cells #[.int .i64 0, .int .i64 0, .int .i64 0, .int .i64 0] 32 (0, 0)) := by have h := (hs.box 13 rfl hea).2.2; rw [show e ((planTk hb gr ix m n c x).S 13) = false from hs0] at h; exact h
      have HS := Lib.hid (hs.store ok (i := 13) rfl hea only4 (set4 hc))
      obtain ⟨q0, q1, q2, q3, p0, p1, p2, p3, pz⟩ := cells4 hc
      refine wpOp_step (i := 14) rfl (fun K hK => ?_)
      have HK : Shut (∀ a w, _ → K a w) := hK
      clear hK ho
      clear hs ha hi hs0 hea hc
      go_simp
      exact HK.out _ _ ⟨upd e 14 true, upd (upd t 5 _) 13 _, g, rfl, rfl, by rw [upd_self T1.out, upd_self T2.out]; exact HS.out⟩
    | 15, ho, hi, ha =>
      obtain rfl : _ = o := Option.some.inj ho
      have T12 : t 19 = .int .i64 (m : Int) := hs.val 12 rfl (ha { on := 12, ground := .data } (by simp) rfl)
      have H12 := Lib.hid T12
      refine wpOp_step (i := 15) rfl (fun K hK => ?_)
      have HK : Shut (∀ a w, _ → K a w) := hK
      clear hK ho
      have HS := Lib.hid hs
      clear hs ha hi
      go_simp
      exact HK.out _ _ ⟨upd e 15 true, upd (upd t 19 _) 6 _, g, rfl, rfl, by rw [upd_self H12.out]; exact HS.out.vals ok (i := 15) rfl⟩
    | k + 16, ho, hi, ha => simp at ho
  case done =>
    rintro l a wr ⟨e, t, g, rfl, rfl, hs⟩ hr
    have hd := ready_done hr rfl (by decide +kernel)
    have e13 : e 13 = true := hd 13 (by decide)
    have e14 : e 14 = true := hd 14 (by decide)
    have e15 : e 15 = true := hd 15 (by decide)
    obtain ⟨p13, l13, b13⟩ := hs.box 13 rfl e13
    replace b13 : wr.heap[g 13]? = some (.cells #[.int .i64 x.b, .int .i64 x.d, .int .i64 x.s, .int .i64 x.i] 32 (0, 0)) := by rw [show e ((planTk hb gr ix m n c x).S 13) = true from e14] at b13; exact b13
    replace p13 : t 5 = .pointer (some ⟨g 13, 0, none⟩) := p13
    have hbe := hs.be
    have t6 : t 6 = .int .i64 (m : Int) := hs.val 15 rfl e15
    obtain ⟨xb, hxb⟩ : ∃ xb, g 13 = xb := ⟨_, rfl⟩
    rw [hxb] at p13 l13 b13
    have hB := HWB.out.trans (hbe.mono (by rw [HSZ.out]; omega))
    have hA : TkSt B hb gr c n n l x xb w wr := by
      have q := HH.out
      rw [HEN.out] at q
      refine ⟨q.next hB, Off.start hB, b13, (hbe.block _ (by rw [HSZ.out]; omega)).trans HN1.out, hlt, hg, by have := HSZ.out; omega⟩
    rw [t6, p13]
    generalize t 7 = u7, t 8 = u8, t 9 = u9, t 10 = u10, t 11 = u11, t 12 = u12, t 13 = u13, t 14 = u14, t 15 = u15, t 16 = u16, t 17 = u17, t 18 = u18, t 19 = u19
    have HA := Lib.hid (hA.next (Below.refl _ _).drew)
    have HP := Lib.hid ((hA.next (Below.refl _ _).drew).put (by rw [HEN.out]; exact hi) y)
    have cb : CBox hb (.slice (some ⟨gr, 0, none⟩) n c) wr := ⟨hA.at_.cell, hA.at_.lt⟩
    have hR : Row B gr l.length c l wr := by have q := hA.at_.row; rw [HEN.out] at q ⊢; exact q
    have hL := own_list hR
    obtain ⟨y0, y1, y2, y3⟩ := hL.nth (i := m) (by rw [HEN.out]; exact hml)
    rw [HEY.out] at y0 y1 y2 y3
    obtain ⟨z, z0, z1, z2, z3, z4, z5, z6, z7⟩ := hR.facts (k := ix) (by rw [HEN.out]; exact hi)
    obtain ⟨cb1, cb2⟩ := cb
    have HR2 : Hid (Row B gr l.length c l wr.drew) := hR.drew
    clear hs hd hr hbe t6 p13 l13 b13 hxb hB hA hL hR e13 e14 e15 HC HX HWB HN1 HSZ
    go_wp2
    go_still_tail 12, (by kernel_rfl)
    change wpList _ _ _ _ _ wr.drew
    clear z0 z1 z2 z3 z4 z5 z6 z7 cb1 cb2 y0 y1 y2 y3
    obtain ⟨z, z0, z1, z2, z3, z4, z5, z6, z7⟩ := HR2.out.facts (k := ix) (by rw [HEN.out]; exact hi)
    clear HR2
    generalize wr.drew = wD at *
    go_upto_region 3 with (fail)
    clear z0 z1 z2 z3 z4 z5 z6 z7
    generalize ((((wD.setCell ⟨gr, ix * 4, none⟩ (.int .i64 y.b)).setCell ⟨gr, ix * 4 + 1, none⟩ (.int .i64 y.d)).setCell ⟨gr, ix * 4 + 2, none⟩ (.int .i64 y.s)).setCell ⟨gr, ix * 4 + 3, none⟩ (.int .i64 y.i)) = wE at *
    have cE := HP.out.at_.cell
    have fE := HP.out.at_.frozen
    have HT := Lib.hid (HP.out.cut (m := m) (by omega))
    have hcap : n ≤ c := by have q := own_cap HP.out.at_.row; rw [List.length_set, HEN.out] at q; exact q
    have hmc : (m : Int) ≤ (c : Int) := by omega
    have hmc' : m ≤ c := by omega
    have hc0 : ¬ c = 0 := by omega
    clear HA HP
    go_upto_region 4 with (fail)
    clear cE fE
    generalize (wE.setCell ⟨hb, 0, none⟩ (.slice (some ⟨gr, 0, none⟩) m c)) = wF at *
    have eT : tak l ix = (l.set ix y).take m := by
      unfold tak
      rw [HEN.out, show n - 1 = m by omega, HEY.out]
    rw [← eT] at HT
    clear eT
    have cF := HT.out.at_.cell
    by_cases hix : ix < m
    · have hix' : (ix : Int) < (m : Int) := by omega
      have hlenT : (tak l ix).length = m := by rw [tak_length, HEN.out]; omega
      have SK := sink_any (tak l ix) (by omega) B gr c lo ix wF (by have q := HT.out.at_.row; rw [hlenT] at q ⊢; exact q) (HSN.out (by rw [HEN.out]; omega))
      rw [hlenT] at SK
      have E : Hid (∀ w4 l4, Row B gr m c l4 w4 → wF.grownBy w4 (some gr) → Same lo (tak l ix) l4 → (∀ j, lo ≤ j → Loc l4 j) → TkSt B hb gr c n m l4 x xb w w4) := fun w4 l4 r4 g4 s4 _ => HT.out.sunk r4 g4 (s4.len.trans hlenT)
      have HLT := Lib.hid hlenT
      clear hlenT HT
      go_wp2_with fail
      with_reducible refine SK.mono ?_
      rintro e w4 ⟨l4, rfl, r4, g4, s4, c4⟩
      have F := E.out w4 l4 r4 g4 s4 c4
      have HS4 := Lib.hid s4
      have HC4 := Lib.hid c4
      clear E r4 g4 s4 c4 SK cF
      have E : Hid (∀ W, TkSt B hb gr c n m l4 x xb w W → IsTaken B hb gr c lo ix l w (.returned (entV x)) ((((W.setCell ⟨w.heap.size, 0, none⟩ (.int .i64 x.b)).setCell ⟨w.heap.size, 1, none⟩ (.int .i64 x.d)).setCell ⟨w.heap.size, 2, none⟩ (.int .i64 x.s)).setCell ⟨w.heap.size, 3, none⟩ (.int .i64 x.i))) := fun W hW => by
        obtain ⟨q1, q2⟩ := hW.took (.int .i64 x.b) (.int .i64 x.d) (.int .i64 x.s) (.int .i64 x.i)
        have em : l.length - 1 = m := by have := HEN.out; omega
        refine ⟨l4, by rw [HEX.out], ⟨by rw [em]; exact q1, by rw [HEN.out]; exact q2, fun _ => ⟨HS4.out, HC4.out⟩, fun h => ?_⟩⟩
        rw [em] at h; omega
      have HF := Lib.hid F
      obtain ⟨x0, x1, x2, x3, _, _, _, _, xz⟩ := cells4 F.x_
      obtain ⟨r0, r1, r2, r3, f0, f1, f2, f3, rz⟩ := cells4 F.r_
      clear F
      go_wp2
      refine bodyPost_ret (v := entV x) (by simp [results, Try.results120, go_sem, entV, r0, r1, r2, r3]) rfl ?_
      exact E.out _ HF.out
    · have hix' : ¬ (ix : Int) < (m : Int) := by omega
      have E : Hid (∀ W, TkSt B hb gr c n m (tak l ix) x xb w W → IsTaken B hb gr c lo ix l w (.returned (entV x)) ((((W.setCell ⟨w.heap.size, 0, none⟩ (.int .i64 x.b)).setCell ⟨w.heap.size, 1, none⟩ (.int .i64 x.d)).setCell ⟨w.heap.size, 2, none⟩ (.int .i64 x.s)).setCell ⟨w.heap.size, 3, none⟩ (.int .i64 x.i))) := fun W hW => by
        obtain ⟨q1, q2⟩ := hW.took (.int .i64 x.b) (.int .i64 x.d) (.int .i64 x.s) (.int .i64 x.i)
        have em : l.length - 1 = m := by have := HEN.out; omega
        refine ⟨tak l ix, by rw [HEX.out], ⟨by rw [em]; exact q1, by rw [HEN.out]; exact q2, fun h => ?_, fun _ => rfl⟩⟩
        rw [em] at h; omega
      have F := HT.out
      clear cF HT
      have HF := Lib.hid F
      obtain ⟨x0, x1, x2, x3, _, _, _, _, xz⟩ := cells4 F.x_
      obtain ⟨r0, r1, r2, r3, f0, f1, f2, f3, rz⟩ := cells4 F.r_
      clear F
      go_wp2
      refine bodyPost_ret (v := entV x) (by simp [results, Try.results120, go_sem, entV, r0, r1, r2, r3]) rfl ?_
      exact E.out _ HF.out
end Go.Proofs.Ytiighhcilgjebaa
