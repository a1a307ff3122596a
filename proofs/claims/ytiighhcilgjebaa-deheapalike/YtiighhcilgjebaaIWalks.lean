/-
  What the small calls of package iheap do (layer 6): above, place, beats, best. Nothing that was in memory before turns.
-/
import Derived.Test.YtiighhcilgjebaaHeapKit
import Derived.Test.YtiighhcilgjebaaIMath
namespace Go.Proofs.Ytiighhcilgjebaa.I
set_option maxRecDepth 100000
open Go.RowKit Go.Sort

theorem above_any (i : Nat) (h0 : 0 < i) (hi : i ≤ 100000) (w : World) : Calls Try.prog 111 #[.int .i64 (i : Int)] w fun e w' => e = .returned (.int .i64 (((i - 1) / 2 : Nat) : Int)) ∧ w = w' := by
  obtain ⟨m, hm⟩ : ∃ m : Nat, m = (i - 1) / 2 := ⟨_, rfl⟩
  have hd : ((i : Int) - 1) / 2 = (m : Int) := by omega
  rw [← hm]
  have HD := Lib.hid hd
  clear hm hd
  go_enter Try.func111, Try.ntmps111
  go_wp2
  go_ret
  refine ⟨?_, rfl⟩
  show Ending.returned (.int .i64 (((i : Int) - 1) / 2)) = _
  rw [HD.out]
theorem place_any (p : Option Addr) (n cap k : Nat) (up : Bool) (hk : k ≤ 10000) (h0 : 0 < n) (hn : n ≤ 10000) (w : World) :
    Calls Try.prog 79 #[.slice p n cap, .int .i64 (k : Int), .bool (!up)] w fun e w' => e = .returned (.int .i64 (pl n up k : Int)) ∧ w = w' := by
  cases up with
  | true =>
    rw [pl_t, show ((2 * k : Nat) : Int) = 2 * (k : Int) by omega]
    show Calls _ _ #[_, _, .bool false] _ _
    go_enter Try.func79, Try.ntmps79
    go_wp2
    go_ret
    exact ⟨rfl, rfl⟩
  | false =>
    show Calls _ _ #[_, _, .bool true] _ _
    by_cases h : 2 * (k : Int) + 1 ≤ (n : Int) - 1
    · have hm : min (2 * (k : Int) + 1) ((n : Int) - 1) = 2 * (k : Int) + 1 := by omega
      rw [show ((pl n false k : Nat) : Int) = 2 * (k : Int) + 1 by rw [pl_f]; omega]
      go_enter Try.func79, Try.ntmps79
      go_wp2
      go_ret
      exact ⟨rfl, rfl⟩
    · have hm : min (2 * (k : Int) + 1) ((n : Int) - 1) = (n : Int) - 1 := by omega
      rw [show ((pl n false k : Nat) : Int) = (n : Int) - 1 by rw [pl_f]; omega]
      go_enter Try.func79, Try.ntmps79
      go_wp2
      go_ret
      exact ⟨rfl, rfl⟩
def planBt (gr n cap k b ii jj : Nat) (up : Bool) (x y : En) : Plan := { ks := [0, 0, 0, 0, 0, 0, 0, 0, 0, 0, 0, 0, 0, 0, 1, 1, 2, 2], ds := [11, 12, 13, 14, 15, 16, 17, 18, 19, 20, 21, 22, 23, 24, 9, 10, 0, 0], vs := [.slice (some ⟨gr, 0, none⟩) n cap, .slice (some ⟨gr, 0, none⟩) n cap, .int .i64 (k : Int), .bool (!up), .int .i64 (ii : Int), .pointer (some ⟨gr, ii * 4, none⟩), .agg #[.int .i64 x.b, .int .i64 x.d, .int .i64 x.s, .int .i64 x.i], .slice (some ⟨gr, 0, none⟩) n cap, .slice (some ⟨gr, 0, none⟩) n cap, .int .i64 (b : Int), .bool (!up), .int .i64 (jj : Int), .pointer (some ⟨gr, jj * 4, none⟩), .agg #[.int .i64 y.b, .int .i64 y.d, .int .i64 y.s, .int .i64 y.i], undef, undef, undef, undef], ss := [0, 0, 0, 0, 0, 0, 0, 0, 0, 0, 0, 0, 0, 0, 16, 17, 0, 0], zs := [#[], #[], #[], #[], #[], #[], #[], #[], #[], #[], #[], #[], #[], #[], #[.int .i64 0, .int .i64 0, .int .i64 0, .int .i64 0], #[.int .i64 0, .int .i64 0, .int .i64 0, .int .i64 0], #[], #[]], fs := [#[], #[], #[], #[], #[], #[], #[], #[], #[], #[], #[], #[], #[], #[], #[.int .i64 x.b, .int .i64 x.d, .int .i64 x.s, .int .i64 x.i], #[.int .i64 y.b, .int .i64 y.d, .int .i64 y.s, .int .i64 y.i], #[], #[]], ts := [0, 0, 0, 0, 0, 0, 0, 0, 0, 0, 0, 0, 0, 0, 32, 32, 0, 0] }
set_option maxHeartbeats 4000000 in
theorem beats_any (l : List En) (gr cap k b : Nat) (up : Bool) (w : World) (hL : ListAt w gr l) (hn : l.length ≤ 1000) (hk : 2 * k < l.length) (hb : 2 * b < l.length) :
    Calls Try.prog 78 #[.slice (some ⟨gr, 0, none⟩) l.length cap, .int .i64 (k : Int), .int .i64 (b : Int), .bool (!up)] w fun e w' => e = .returned (.bool (bltB up (sd l up k) (sd l up b))) ∧ Below w.heap.size w w' := by
  have P1 := fun (x : Nat) (hx : x ≤ 1000) w => (place_any (some ⟨gr, 0, none⟩) l.length cap x up (by omega) (by omega) (by omega) w).mono (fun e w' h => (⟨h.1, h.2 ▸ More.refl _⟩ : _ ∧ More w w'))
  have P := Lib.hid (P1 k (by omega))
  have P2 := Lib.hid (P1 b (by omega))
  have hi := pl_lt up hk
  have hj := pl_lt up hb
  obtain ⟨x0, x1, x2, x3⟩ := hL.nth hi
  obtain ⟨y0, y1, y2, y3⟩ := hL.nth hj
  unfold sd
  generalize pl l.length up k = ii at *
  generalize pl l.length up b = jj at *
  have HX : Hid (IBox gr ii (nth l ii) w) := ⟨x0, x1, x2, x3, hL.1⟩
  have HY : Hid (IBox gr jj (nth l jj) w) := ⟨y0, y1, y2, y3, hL.1⟩
  generalize nth l ii = x at *
  generalize nth l jj = y at *
  generalize l.length = n at *
  clear P1 hL x0 x1 x2 x3 y0 y1 y2 y3
  have c01 : (0 : Int) ≤ (ii : Int) := by omega
  have c02 : (ii : Int) < (n : Int) := by omega
  have c03 : (0 : Int) ≤ (jj : Int) := by omega
  have c04 : (jj : Int) < (n : Int) := by omega
  go_enter Try.func78, Try.ntmps78
  go_wp2
  have ok : (planBt gr n cap k b ii jj up x y).ok = true := rfl
  refine region_inv (Inv := fun l a wr => ∃ (e : Nat → Bool) (t : Nat → Value) (g : Nat → Nat), l = #[e 0, e 1, e 2, e 3, e 4, e 5, e 6, e 7, e 8, e 9, e 10, e 11, e 12, e 13, e 14, e 15, e 16, e 17] ∧ a = ⟨#[.slice (some ⟨gr, 0, none⟩) n cap, .int .i64 (k : Int), .int .i64 (b : Int), .bool (!up), undef, undef, undef, undef, .bool false, t 9, t 10, t 11, t 12, t 13, t 14, t 15, t 16, t 17, t 18, t 19, t 20, t 21, t 22, t 23, t 24, undef, undef, undef, undef, undef, undef, undef], []⟩ ∧ Stage (planBt gr n cap k b ii jj up x y) w e t g wr) (by kernel_rfl) ?step ?start ?done
  case start => exact ⟨fun _ => false, fun _ => undef, fun _ => 0, rfl, rfl, Stage.start _ _ _ _⟩
  case step =>
    rintro l a wr ⟨e, t, g, rfl, rfl, hs⟩ i o ho hi ha
    match i, ho, hi, ha with
    | 0, ho, hi, ha =>
      obtain rfl : _ = o := Option.some.inj ho
      refine wpOp_step (i := 0) rfl (fun K hK => ?_)
      have HK : Shut (∀ a w, _ → K a w) := hK
      clear hK ho
      have HS := Lib.hid hs
      clear hs ha hi
      go_simp
      exact HK.out _ _ ⟨upd e 0 true, upd t 11 _, g, rfl, rfl, by exact HS.out.vals ok (i := 0) rfl⟩
    | 1, ho, hi, ha =>
      obtain rfl : _ = o := Option.some.inj ho
      refine wpOp_step (i := 1) rfl (fun K hK => ?_)
      have HK : Shut (∀ a w, _ → K a w) := hK
      clear hK ho
      have HS := Lib.hid hs
      clear hs ha hi
      go_simp
      exact HK.out _ _ ⟨upd e 1 true, upd t 12 _, g, rfl, rfl, by exact HS.out.vals ok (i := 1) rfl⟩
    | 2, ho, hi, ha =>
      obtain rfl : _ = o := Option.some.inj ho
      refine wpOp_step (i := 2) rfl (fun K hK => ?_)
      have HK : Shut (∀ a w, _ → K a w) := hK
      clear hK ho
      have HS := Lib.hid hs
      clear hs ha hi
      go_simp
      exact HK.out _ _ ⟨upd e 2 true, upd t 13 _, g, rfl, rfl, by exact HS.out.vals ok (i := 2) rfl⟩
    | 3, ho, hi, ha =>
      obtain rfl : _ = o := Option.some.inj ho
      refine wpOp_step (i := 3) rfl (fun K hK => ?_)
      have HK : Shut (∀ a w, _ → K a w) := hK
      clear hK ho
      have HS := Lib.hid hs
      clear hs ha hi
      go_simp
      exact HK.out _ _ ⟨upd e 3 true, upd t 14 _, g, rfl, rfl, by exact HS.out.vals ok (i := 3) rfl⟩
    | 4, ho, hi, ha =>
      obtain rfl : _ = o := Option.some.inj ho
      have T1 : t 12 = .slice (some ⟨gr, 0, none⟩) n cap := hs.val 1 rfl (ha { on := 1, ground := .data } (by simp) rfl)
      have H1 := Lib.hid T1
      have T2 : t 13 = .int .i64 (k : Int) := hs.val 2 rfl (ha { on := 2, ground := .data } (by simp) rfl)
      have H2 := Lib.hid T2
      have T3 : t 14 = .bool (!up) := hs.val 3 rfl (ha { on := 3, ground := .data } (by simp) rfl)
      have H3 := Lib.hid T3
      refine wpOp_step (i := 4) rfl (fun K hK => ?_)
      have HK : Shut (∀ a w, _ → K a w) := hK
      clear hK ho
      have HS := Lib.hid hs
      clear hs ha hi
      go_simp
      (with_reducible refine (P.out _).mono ?_)
      rintro e' w' ⟨rfl, m⟩
      go_wp2_with fail
      exact HK.out _ _ ⟨upd e 4 true, upd (upd (upd (upd t 12 _) 13 _) 14 _) 15 _, g, rfl, rfl, by rw [upd_self H1.out, upd_self H2.out, upd_self H3.out]; exact (HS.out.grow m.below).vals ok (i := 4) rfl⟩
    | 5, ho, hi, ha =>
      obtain rfl : _ = o := Option.some.inj ho
      have T0 : t 11 = .slice (some ⟨gr, 0, none⟩) n cap := hs.val 0 rfl (ha { on := 0, ground := .data } (by simp) rfl)
      have H0 := Lib.hid T0
      have T4 : t 15 = .int .i64 (ii : Int) := hs.val 4 rfl (ha { on := 4, ground := .data } (by simp) rfl)
      have H4 := Lib.hid T4
      refine wpOp_step (i := 5) rfl (fun K hK => ?_)
      have HK : Shut (∀ a w, _ → K a w) := hK
      clear hK ho
      have HS := Lib.hid hs
      clear hs ha hi
      go_simp
      exact HK.out _ _ ⟨upd e 5 true, upd (upd (upd t 11 _) 15 _) 16 _, g, rfl, rfl, by rw [upd_self H0.out, upd_self H4.out]; exact HS.out.vals ok (i := 5) rfl⟩
    | 6, ho, hi, ha =>
      obtain rfl : _ = o := Option.some.inj ho
      have T5 : t 16 = .pointer (some ⟨gr, ii * 4, none⟩) := hs.val 5 rfl (ha { on := 5, ground := .data } (by simp) rfl)
      have H5 := Lib.hid T5
      refine wpOp_step (i := 6) rfl (fun K hK => ?_)
      have HK : Shut (∀ a w, _ → K a w) := hK
      clear hK ho
      obtain ⟨c0, c1, c2, c3, cz⟩ := HX.out.next hs.be
      have HS := Lib.hid hs
      clear hs ha hi
      go_simp
      exact HK.out _ _ ⟨upd e 6 true, upd (upd t 16 _) 17 _, g, rfl, rfl, by rw [upd_self H5.out]; exact HS.out.vals ok (i := 6) rfl⟩
    | 7, ho, hi, ha =>
      obtain rfl : _ = o := Option.some.inj ho
      refine wpOp_step (i := 7) rfl (fun K hK => ?_)
      have HK : Shut (∀ a w, _ → K a w) := hK
      clear hK ho
      have HS := Lib.hid hs
      clear hs ha hi
      go_simp
      exact HK.out _ _ ⟨upd e 7 true, upd t 18 _, g, rfl, rfl, by exact HS.out.vals ok (i := 7) rfl⟩
    | 8, ho, hi, ha =>
      obtain rfl : _ = o := Option.some.inj ho
      refine wpOp_step (i := 8) rfl (fun K hK => ?_)
      have HK : Shut (∀ a w, _ → K a w) := hK
      clear hK ho
      have HS := Lib.hid hs
      clear hs ha hi
      go_simp
      exact HK.out _ _ ⟨upd e 8 true, upd t 19 _, g, rfl, rfl, by exact HS.out.vals ok (i := 8) rfl⟩
    | 9, ho, hi, ha =>
      obtain rfl : _ = o := Option.some.inj ho
      refine wpOp_step (i := 9) rfl (fun K hK => ?_)
      have HK : Shut (∀ a w, _ → K a w) := hK
      clear hK ho
      have HS := Lib.hid hs
      clear hs ha hi
      go_simp
      exact HK.out _ _ ⟨upd e 9 true, upd t 20 _, g, rfl, rfl, by exact HS.out.vals ok (i := 9) rfl⟩
    | 10, ho, hi, ha =>
      obtain rfl : _ = o := Option.some.inj ho
      refine wpOp_step (i := 10) rfl (fun K hK => ?_)
      have HK : Shut (∀ a w, _ → K a w) := hK
      clear hK ho
      have HS := Lib.hid hs
      clear hs ha hi
      go_simp
      exact HK.out _ _ ⟨upd e 10 true, upd t 21 _, g, rfl, rfl, by exact HS.out.vals ok (i := 10) rfl⟩
    | 11, ho, hi, ha =>
      obtain rfl : _ = o := Option.some.inj ho
      have T8 : t 19 = .slice (some ⟨gr, 0, none⟩) n cap := hs.val 8 rfl (ha { on := 8, ground := .data } (by simp) rfl)
      have H8 := Lib.hid T8
      have T9 : t 20 = .int .i64 (b : Int) := hs.val 9 rfl (ha { on := 9, ground := .data } (by simp) rfl)
      have H9 := Lib.hid T9
      have T10 : t 21 = .bool (!up) := hs.val 10 rfl (ha { on := 10, ground := .data } (by simp) rfl)
      have H10 := Lib.hid T10
      refine wpOp_step (i := 11) rfl (fun K hK => ?_)
      have HK : Shut (∀ a w, _ → K a w) := hK
      clear hK ho
      have HS := Lib.hid hs
      clear hs ha hi
      go_simp
      (with_reducible refine (P2.out _).mono ?_)
      rintro e' w' ⟨rfl, m⟩
      go_wp2_with fail
      exact HK.out _ _ ⟨upd e 11 true, upd (upd (upd (upd t 19 _) 20 _) 21 _) 22 _, g, rfl, rfl, by rw [upd_self H8.out, upd_self H9.out, upd_self H10.out]; exact (HS.out.grow m.below).vals ok (i := 11) rfl⟩
    | 12, ho, hi, ha =>
      obtain rfl : _ = o := Option.some.inj ho
      have T7 : t 18 = .slice (some ⟨gr, 0, none⟩) n cap := hs.val 7 rfl (ha { on := 7, ground := .data } (by simp) rfl)
      have H7 := Lib.hid T7
      have T11 : t 22 = .int .i64 (jj : Int) := hs.val 11 rfl (ha { on := 11, ground := .data } (by simp) rfl)
      have H11 := Lib.hid T11
      refine wpOp_step (i := 12) rfl (fun K hK => ?_)
      have HK : Shut (∀ a w, _ → K a w) := hK
      clear hK ho
      have HS := Lib.hid hs
      clear hs ha hi
      go_simp
      exact HK.out _ _ ⟨upd e 12 true, upd (upd (upd t 18 _) 22 _) 23 _, g, rfl, rfl, by rw [upd_self H7.out, upd_self H11.out]; exact HS.out.vals ok (i := 12) rfl⟩
    | 13, ho, hi, ha =>
      obtain rfl : _ = o := Option.some.inj ho
      have T12 : t 23 = .pointer (some ⟨gr, jj * 4, none⟩) := hs.val 12 rfl (ha { on := 12, ground := .data } (by simp) rfl)
      have H12 := Lib.hid T12
      refine wpOp_step (i := 13) rfl (fun K hK => ?_)
      have HK : Shut (∀ a w, _ → K a w) := hK
      clear hK ho
      obtain ⟨c0, c1, c2, c3, cz⟩ := HY.out.next hs.be
      have HS := Lib.hid hs
      clear hs ha hi
      go_simp
      exact HK.out _ _ ⟨upd e 13 true, upd (upd t 23 _) 24 _, g, rfl, rfl, by rw [upd_self H12.out]; exact HS.out.vals ok (i := 13) rfl⟩
    | 14, ho, hi, ha =>
      obtain rfl : _ = o := Option.some.inj ho
      have hi : e 14 = false := hi
      refine wpOp_step (i := 14) rfl (fun K hK => ?_)
      have HK : Shut (∀ a w, _ → K a w) := hK
      clear hK ho
      have HS := Lib.hid hs
      have HI := Lib.hid hi
      clear hs ha hi
      go_simp
      exact HK.out _ _ ⟨upd e 14 true, upd t 9 _, upd g 14 _, rfl, rfl, HS.out.alloc ok (i := 14) rfl HI.out⟩
    | 15, ho, hi, ha =>
      obtain rfl : _ = o := Option.some.inj ho
      have hi : e 15 = false := hi
      refine wpOp_step (i := 15) rfl (fun K hK => ?_)
      have HK : Shut (∀ a w, _ → K a w) := hK
      clear hK ho
      have HS := Lib.hid hs
      have HI := Lib.hid hi
      clear hs ha hi
      go_simp
      exact HK.out _ _ ⟨upd e 15 true, upd t 10 _, upd g 15 _, rfl, rfl, HS.out.alloc ok (i := 15) rfl HI.out⟩
    | 16, ho, hi, ha =>
      obtain rfl : _ = o := Option.some.inj ho
      have hs0 : e 16 = false := hi
      have hea : e 14 = true := ha { on := 14, ground := .data } (by simp) rfl
      have t1 : t 9 = .pointer (some ⟨g 14, 0, none⟩) := (hs.box 14 rfl hea).1
      have t2 : t 17 = .agg #[.int .i64 x.b, .int .i64 x.d, .int .i64 x.s, .int .i64 x.i] := hs.val 6 rfl (ha { on := 6, ground := .data } (by simp) rfl)
      have T1 := Lib.hid t1
      have T2 := Lib.hid t2
      have hc : wr.heap[g 14]? = some (.cells #[.int .i64 0, .int .i64 0, .int .i64 0, .int .i64 0] 32 (0, 0)) := by have h := (hs.box 14 rfl hea).2.2; rw [show e ((planBt gr n cap k b ii jj up x y).S 14) = false from hs0] at h; exact h
      have HS := Lib.hid (hs.store ok (i := 14) rfl hea only4 (set4 hc))
      obtain ⟨q0, q1, q2, q3, p0, p1, p2, p3, pz⟩ := cells4 hc
      refine wpOp_step (i := 16) rfl (fun K hK => ?_)
      have HK : Shut (∀ a w, _ → K a w) := hK
      clear hK ho
      clear hs ha hi hs0 hea hc
      go_simp
      exact HK.out _ _ ⟨upd e 16 true, upd (upd t 9 _) 17 _, g, rfl, rfl, by rw [upd_self T1.out, upd_self T2.out]; exact HS.out⟩
    | 17, ho, hi, ha =>
      obtain rfl : _ = o := Option.some.inj ho
      have hs0 : e 17 = false := hi
      have hea : e 15 = true := ha { on := 15, ground := .data } (by simp) rfl
      have t1 : t 10 = .pointer (some ⟨g 15, 0, none⟩) := (hs.box 15 rfl hea).1
      have t2 : t 24 = .agg #[.int .i64 y.b, .int .i64 y.d, .int .i64 y.s, .int .i64 y.i] := hs.val 13 rfl (ha { on := 13, ground := .data } (by simp) rfl)
      have T1 := Lib.hid t1
      have T2 := Lib.hid t2
      have hc : wr.heap[g 15]? = some (.cells #[.int .i64 0, .int .i64 0, .int .i64 0, .int .i64 0] 32 (0, 0)) := by have h := (hs.box 15 rfl hea).2.2; rw [show e ((planBt gr n cap k b ii jj up x y).S 15) = false from hs0] at h; exact h
      have HS := Lib.hid (hs.store ok (i := 15) rfl hea only4 (set4 hc))
      obtain ⟨q0, q1, q2, q3, p0, p1, p2, p3, pz⟩ := cells4 hc
      refine wpOp_step (i := 17) rfl (fun K hK => ?_)
      have HK : Shut (∀ a w, _ → K a w) := hK
      clear hK ho
      clear hs ha hi hs0 hea hc
      go_simp
      exact HK.out _ _ ⟨upd e 17 true, upd (upd t 10 _) 24 _, g, rfl, rfl, by rw [upd_self T1.out, upd_self T2.out]; exact HS.out⟩
    | k + 18, ho, hi, ha => simp at ho
  case done =>
    rintro l a wr ⟨e, t, g, rfl, rfl, hs⟩ hr
    have hd := ready_done hr rfl (by decide +kernel)
    have e14 : e 14 = true := hd 14 (by decide)
    have e15 : e 15 = true := hd 15 (by decide)
    have e16 : e 16 = true := hd 16 (by decide)
    have e17 : e 17 = true := hd 17 (by decide)
    obtain ⟨p14, l14, b14⟩ := hs.box 14 rfl e14
    replace b14 : wr.heap[g 14]? = some (.cells #[.int .i64 x.b, .int .i64 x.d, .int .i64 x.s, .int .i64 x.i] 32 (0, 0)) := by rw [show e ((planBt gr n cap k b ii jj up x y).S 14) = true from e16] at b14; exact b14
    replace p14 : t 9 = .pointer (some ⟨g 14, 0, none⟩) := p14
    obtain ⟨p15, l15, b15⟩ := hs.box 15 rfl e15
    replace b15 : wr.heap[g 15]? = some (.cells #[.int .i64 y.b, .int .i64 y.d, .int .i64 y.s, .int .i64 y.i] 32 (0, 0)) := by rw [show e ((planBt gr n cap k b ii jj up x y).S 15) = true from e17] at b15; exact b15
    replace p15 : t 10 = .pointer (some ⟨g 15, 0, none⟩) := p15
    have hsz := hs.be.size
    obtain ⟨q0, q1, q2, q3, p0, p1, p2, p3, pz⟩ := cells4 b14
    obtain ⟨r0, r1, r2, r3, s0, s1, s2, s3, sz⟩ := cells4 b15
    have HM : Hid (Below w.heap.size w wr) := hs.be
    rw [p14, p15]
    generalize t 11 = u11, t 12 = u12, t 13 = u13, t 14 = u14, t 15 = u15, t 16 = u16, t 17 = u17, t 18 = u18, t 19 = u19, t 20 = u20, t 21 = u21, t 22 = u22, t 23 = u23, t 24 = u24
    generalize g 14 = ga at *
    generalize g 15 = gb at *
    clear hs hr hd P P2 HX HY b14 b15 p14 p15
    cases up with
    | true =>
      have RL := less_any x y wr
      show Exit.then _ _ _ _ _
      rw [show (!true) = false from rfl]
      obtain ⟨r, hr⟩ : ∃ r, eltB x y = r := ⟨_, rfl⟩
      rw [hr] at RL
      have HRR : Hid (bltB true x y = r) := hr
      clear hr
      unfold entV at RL
      go_wp2_with fail
      with_reducible refine RL.mono ?_
      rintro e w' ⟨rfl, mo⟩
      have HE := Lib.hid (HM.out.trans (mo.below.mono hsz))
      clear mo RL
      go_wp2
      go_ret
      exact ⟨by rw [HRR.out]; rfl, HE.out⟩
    | false =>
      have RL := less_any y x wr
      show Exit.then _ _ _ _ _
      rw [show (!false) = true from rfl]
      obtain ⟨r, hr⟩ : ∃ r, eltB y x = r := ⟨_, rfl⟩
      rw [hr] at RL
      have HRR : Hid (bltB false x y = r) := hr
      clear hr
      unfold entV at RL
      go_wp2_with fail
      with_reducible refine RL.mono ?_
      rintro e w' ⟨rfl, mo⟩
      have HE := Lib.hid (HM.out.trans (mo.below.mono hsz))
      clear mo RL
      go_wp2
      go_ret
      exact ⟨by rw [HRR.out]; rfl, HE.out⟩

/-- What best answers. -/
def AnsBest (l : List En) (up : Bool) (k : Nat) (w : World) (e : Ending) (w' : World) : Prop :=
  ∃ b : Nat, IsBest l up k b ∧ (b = k ∨ 2 * b < l.length) ∧ e = .returned (.int .i64 (b : Int)) ∧ Below w.heap.size w w'
/-- The state of its loop: the pair so far, and the next one. -/
structure BestSo (l : List En) (up : Bool) (k : Nat) (w : World) (b m : Nat) (wr : World) : Prop where
  mk ::
  at_ : b = k ∨ (Ch k b ∧ 2 * b < l.length ∧ blt up (sd l up b) (sd l up k))
  ge : 2 * k + 1 ≤ m
  le : m ≤ 2 * k + 3
  all : ∀ c, 2 * k + 1 ≤ c → c < m → 2 * c < l.length → ble up (sd l up b) (sd l up c)
  be : Below w.heap.size w wr
theorem BestSo.done {l : List En} {up : Bool} {k b m : Nat} {w wr : World} (h : BestSo l up k w b m wr) (hd : m = 2 * k + 3 ∨ l.length ≤ 2 * m) : IsBest l up k b ∧ (b = k ∨ 2 * b < l.length) := by
  have h1 := h.ge
  refine ⟨⟨h.at_, fun c hc hl => h.all c ?_ ?_ hl⟩, h.at_.imp id (fun h => h.2.1)⟩
  · unfold Ch at hc; omega
  · unfold Ch at hc; omega
theorem BestSo.yes {l : List En} {up : Bool} {k b m : Nat} {w wr w' : World} (h : BestSo l up k w b m wr) (hm : m ≤ 2 * k + 2) (hl : 2 * m < l.length) (hb : blt up (sd l up m) (sd l up b)) (g : Below wr.heap.size wr w') : BestSo l up k w m (m + 1) w' := by
  have h1 := h.ge
  refine ⟨.inr ⟨by unfold Ch; omega, hl, ?_⟩, by omega, by omega, fun c h2 h3 h4 => ?_, h.be.trans (g.mono h.be.size)⟩
  · rcases h.at_ with rfl | ⟨_, _, h2⟩
    · exact hb
    · exact blt_trans hb h2
  · by_cases hcm : c = m
    · subst hcm; exact ble_refl _ _
    · exact ble_trans (ble_of hb) (h.all c h2 (by omega) h4)
theorem BestSo.no {l : List En} {up : Bool} {k b m : Nat} {w wr w' : World} (h : BestSo l up k w b m wr) (hm : m ≤ 2 * k + 2) (hb : ¬ blt up (sd l up m) (sd l up b)) (g : Below wr.heap.size wr w') : BestSo l up k w b (m + 1) w' := by
  have h1 := h.ge
  refine ⟨h.at_, by omega, by omega, fun c h2 h3 h4 => ?_, h.be.trans (g.mono h.be.size)⟩
  by_cases hcm : c = m
  · subst hcm; exact hb
  · exact h.all c h2 (by omega) h4
def BestAt (l : List En) (up : Bool) (k : Nat) (w : World) (vb vm : Value) (wr : World) : Prop :=
  ∃ b m : Nat, vb = .int .i64 (b : Int) ∧ vm = .int .i64 (m : Int) ∧ BestSo l up k w b m wr
set_option maxHeartbeats 2000000 in
theorem best_any (l : List En) (hn : l.length ≤ 1000) (g cap k : Nat) (hk : k ≤ 1000) (up : Bool) (w : World) (hL : ListAt w g l) :
    Calls Try.prog 66 #[.slice (some ⟨g, 0, none⟩) l.length cap, .int .i64 (k : Int), .bool (!up)] w (AnsBest l up k w) := by
  have HB : Hid (BestAt l up k w (.int .i64 (k : Int)) (.int .i64 (2 * (k : Int) + 1)) w) :=
    ⟨k, 2 * k + 1, rfl, by rw [show ((2 * k + 1 : Nat) : Int) = 2 * (k : Int) + 1 by omega], .inl rfl, by omega, by omega, fun c h1 h2 => absurd h1 (by omega), Below.refl _ _⟩
  have BT := fun (b m : Nat) (hm : 2 * m < l.length) (hb : 2 * b < l.length) wr (hw : Below w.heap.size w wr) => beats_any l g cap m b up wr (hL.next hw) hn hm hb
  obtain ⟨n, en⟩ : ∃ n, l.length = n := ⟨_, rfl⟩
  have EN := Lib.hid en
  rw [en] at hn BT ⊢
  have HBT := Lib.hid BT
  clear en BT hL
  generalize hu : (!up) = hi at *
  clear hu
  go_enter Try.func66, Try.ntmps66
  go_wp2
  go_loopw [7, 8] (fun vb vm wr => BestAt l up k w vb vm wr) (fun _ vm _ => 20000 - (intOf vm).toNat)
  case atStart => exact HB.out
  case round =>
    obtain ⟨b, m, rfl, rfl, hS⟩ := hrel
    clear HB
    by_cases h1 : m ≤ 2 * k + 2
    · have h1' : (m : Int) ≤ 2 * (k : Int) + 2 := by omega
      by_cases h2 : 2 * m < n
      · have h2' : 2 * (m : Int) < (n : Int) := by omega
        have hge := hS.ge
        have hb : 2 * b < n := by
          rcases hS.at_ with h | h
          · omega
          · rw [← EN.out]; exact h.2.1
        have B1 := HBT.out b m h2 hb wr hS.be
        have HS := Lib.hid hS
        cases hr : bltB up (sd l up m) (sd l up b) with
        | true =>
          have hr' := (bltB_iff _ _ _).1 hr
          have HY : Hid (∀ w', Below wr.heap.size wr w' → BestSo l up k w m (m + 1) w') := fun w' g => hS.yes h1 (by rw [EN.out]; exact h2) hr' g
          rw [hr] at B1
          clear hr hr' hS HS
          go_wp2_with fail
          with_reducible refine B1.mono ?_
          rintro e wn ⟨rfl, mo⟩
          have MO := Lib.hid (HY.out wn mo)
          clear mo B1 HY
          go_wp2
          go_roundw
          case rel => exact ⟨m, m + 1, rfl, by go_num, MO.out⟩
          case measure => simp [intOf]; omega
        | false =>
          have hr' := (bltB_false _ _ _).1 hr
          have HY : Hid (∀ w', Below wr.heap.size wr w' → BestSo l up k w b (m + 1) w') := fun w' g => hS.no h1 hr' g
          rw [hr] at B1
          clear hr hr' hS HS
          go_wp2_with fail
          with_reducible refine B1.mono ?_
          rintro e wn ⟨rfl, mo⟩
          have MO := Lib.hid (HY.out wn mo)
          clear mo B1 HY
          go_wp2
          go_roundw
          case rel => exact ⟨b, m + 1, rfl, by go_num, MO.out⟩
          case measure => simp [intOf]; omega
      · have h2' : ¬ 2 * (m : Int) < (n : Int) := by omega
        have E : Hid (AnsBest l up k w (.returned (.int .i64 (b : Int))) wr) := by
          obtain ⟨q1, q2⟩ := hS.done (.inr (by rw [EN.out]; omega))
          exact ⟨b, q1, q2, rfl, hS.be⟩
        clear hS HBT
        go_wp2
        go_ret
        exact E.out
    · have h1' : ¬ (m : Int) ≤ 2 * (k : Int) + 2 := by omega
      have E : Hid (AnsBest l up k w (.returned (.int .i64 (b : Int))) wr) := by
        obtain ⟨q1, q2⟩ := hS.done (.inl (by have := hS.le; omega))
        exact ⟨b, q1, q2, rfl, hS.be⟩
      clear hS HBT
      go_wp2
      go_ret
      exact E.out
end Go.Proofs.Ytiighhcilgjebaa.I
