/-
  KeyOrders: which of every two keys, and of every two entries, comes first, and a key's signs, is the document's answer (P4.1, P4.2). For every two entries.
  Conditions: those of the given row (the library's tables lie as their initialisers lay them).
-/
import Derived.Test.YthfdpnmdcmpgbaaDoorKeyText2
import Derived.Test.YthfdpnmdcmpgbaaDoorKeyFrame
import Derived.Test.YthfdpnmdcmpgbaaDoorEntryKit
namespace Go.Proofs.YthfdpnmdcmpgbaaDoor.keyOrders
set_option maxRecDepth 100000
open Go.RowKit Go.Sort
def plan1 (x y : En) : Plan := { ks := [0, 0, 0, 0, 1, 1, 2, 2], ds := [9, 10, 11, 12, 5, 6, 0, 0], vs := [.agg #[.int .i64 x.b, .int .i64 x.d, .int .i64 x.s, .int .i64 x.i], .agg #[.int .i64 x.b, .int .i64 x.d, .int .i64 x.s, .int .i64 x.i], .agg #[.int .i64 y.b, .int .i64 y.d, .int .i64 y.s, .int .i64 y.i], .agg #[.int .i64 y.b, .int .i64 y.d, .int .i64 y.s, .int .i64 y.i], undef, undef, undef, undef], ss := [0, 0, 0, 0, 6, 7, 0, 0], zs := [#[], #[], #[], #[], #[.int .i64 0, .int .i64 0, .int .i64 0, .int .i64 0], #[.int .i64 0, .int .i64 0, .int .i64 0, .int .i64 0], #[], #[]], fs := [#[], #[], #[], #[], #[.int .i64 x.b, .int .i64 x.d, .int .i64 x.s, .int .i64 x.i], #[.int .i64 y.b, .int .i64 y.d, .int .i64 y.s, .int .i64 y.i], #[], #[]], ts := [0, 0, 0, 0, 27, 27, 0, 0] }
def plan2 (x y : En) : Plan := { ks := [0, 0, 1, 1, 2, 2], ds := [13, 14, 7, 8, 0, 0], vs := [.agg #[.int .i64 x.b, .int .i64 x.d, .int .i64 x.s, .int .i64 x.i], .agg #[.int .i64 y.b, .int .i64 y.d, .int .i64 y.s, .int .i64 y.i], undef, undef, undef, undef], ss := [0, 0, 4, 5, 0, 0], zs := [#[], #[], #[.int .i64 0, .int .i64 0, .int .i64 0, .int .i64 0], #[.int .i64 0, .int .i64 0, .int .i64 0, .int .i64 0], #[], #[]], fs := [#[], #[], #[.int .i64 x.b, .int .i64 x.d, .int .i64 x.s, .int .i64 x.i], #[.int .i64 y.b, .int .i64 y.d, .int .i64 y.s, .int .i64 y.i], #[], #[]], ts := [0, 0, 29, 29, 0, 0] }
/-- Four variables that hold entries; the world has grown; the table stands. -/
structure Four (w : World) (ga gb gc gd : Nat) (x y : En) (wr : World) : Prop where
  mk ::
  A : EBox ga x wr
  B : EBox gb y wr
  C : EBox gc x wr
  D : EBox gd y wr
  T : TabOk wr
  be : Below w.heap.size w wr
theorem Four.next {w wr w' : World} {ga gb gc gd : Nat} {x y : En} (h : Four w ga gb gc gd x y wr) (hb : Below wr.heap.size wr w') : Four w ga gb gc gd x y w' :=
  ⟨h.A.next hb, h.B.next hb, h.C.next hb, h.D.next hb, h.T.below hb, h.be.trans (hb.mono h.be.size)⟩

set_option maxHeartbeats 8000000 in
theorem walk (x y : En) (w : World) (hx : EnOk x) (_hy : EnOk y) (hT : TabOk w) :
    Calls Tryd.prog 3 #[entV x, entV y] w fun e w' => e = .returned (.bool true) ∧ Below w.heap.size w w' := by
  have OX := of_any x
  have OY := of_any y
  obtain ⟨x0, y0, m0⟩ := ebox2 w x y 23
  have X := Lib.hid x0
  have Y := Lib.hid y0
  have M := Lib.hid m0.below
  clear x0 y0 m0
  have HT := Lib.hid hT
  clear hT
  have C1 := compare_any x.b x.d x.s y.b y.d y.s
  have C2 := rcmp_any x y
  have L1 := less_any x y
  have L2 := rless_any x y
  have L3 := less_any y x
  have L4 := rless_any y x
  have T1 := text_any x.b x.d x.s hx.1 hx.2.1 hx.2.2.1
  have T2 := rtext_any x hx
  generalize kcm x.b x.d x.s y.b y.d y.s = k1 at C1 C2
  generalize eltB x y = k2 at L1 L2
  generalize eltB y x = k3 at L3 L4
  generalize txtK x.b x.d x.s = k4 at T1 T2
  clear hx _hy
  unfold entV at *
  go_enter Tryd.func3, Tryd.ntmps3
  go_wp2
  generalize ((w.alloc (.cells #[.int .i64 x.b, .int .i64 x.d, .int .i64 x.s, .int .i64 x.i] 23)).alloc (.cells #[.int .i64 y.b, .int .i64 y.d, .int .i64 y.s, .int .i64 y.i] 23)) = w1 at *
  have ok : (plan1 x y).ok = true := rfl
  refine region_inv (Inv := fun l a wr => ∃ (e : Nat → Bool) (t : Nat → Value) (g : Nat → Nat), l = #[e 0, e 1, e 2, e 3, e 4, e 5, e 6, e 7] ∧ a = ⟨#[.agg #[.int .i64 x.b, .int .i64 x.d, .int .i64 x.s, .int .i64 x.i], .agg #[.int .i64 y.b, .int .i64 y.d, .int .i64 y.s, .int .i64 y.i], .pointer (some ⟨w.heap.size, 0, none⟩), .pointer (some ⟨w.heap.size + 1, 0, none⟩), .bool false, t 5, t 6, undef, undef, t 9, t 10, t 11, t 12, undef, undef, undef, undef, undef, undef, undef, undef, undef, undef, undef, undef, undef, undef, undef, undef, undef, undef, undef, undef, undef, undef, undef, undef, undef, undef, undef, undef, undef, undef, undef, undef, undef, undef, undef, undef, undef, undef, undef, undef], []⟩ ∧ Stage (plan1 x y) w1 e t g wr) (by kernel_rfl) ?step ?start ?done
  case start => exact ⟨fun _ => false, fun _ => undef, fun _ => 0, rfl, rfl, Stage.start _ _ _ _⟩
  case step =>
    rintro l a wr ⟨e, t, g, rfl, rfl, hs⟩ i o ho hi ha
    match i, ho, hi, ha with
    | 0, ho, hi, ha =>
      obtain rfl : _ = o := Option.some.inj ho
      refine wpOp_step (i := 0) rfl (fun K hK => ?_)
      have HK : Shut (∀ a w, _ → K a w) := hK
      clear hK ho
      obtain ⟨c0, c1, c2, c3, cz⟩ := X.out.next hs.be
      have HS := Lib.hid hs
      clear hs ha hi
      go_simp
      exact HK.out _ _ ⟨upd e 0 true, upd t 9 _, g, rfl, rfl, by exact HS.out.vals ok (i := 0) rfl⟩
    | 1, ho, hi, ha =>
      obtain rfl : _ = o := Option.some.inj ho
      have T0 : t 9 = .agg #[.int .i64 x.b, .int .i64 x.d, .int .i64 x.s, .int .i64 x.i] := hs.val 0 rfl (ha { on := 0, ground := .data } (by simp) rfl)
      have H0 := Lib.hid T0
      refine wpOp_step (i := 1) rfl (fun K hK => ?_)
      have HK : Shut (∀ a w, _ → K a w) := hK
      clear hK ho
      have HS := Lib.hid hs
      clear hs ha hi
      go_simp
      (with_reducible refine (OX _).mono ?_)
      rintro e' w' ⟨rfl, m⟩
      go_wp2_with fail
      exact HK.out _ _ ⟨upd e 1 true, upd (upd t 9 _) 10 _, g, rfl, rfl, by rw [upd_self H0.out]; exact (HS.out.grow m.below).vals ok (i := 1) rfl⟩
    | 2, ho, hi, ha =>
      obtain rfl : _ = o := Option.some.inj ho
      refine wpOp_step (i := 2) rfl (fun K hK => ?_)
      have HK : Shut (∀ a w, _ → K a w) := hK
      clear hK ho
      obtain ⟨c0, c1, c2, c3, cz⟩ := Y.out.next hs.be
      have HS := Lib.hid hs
      clear hs ha hi
      go_simp
      exact HK.out _ _ ⟨upd e 2 true, upd t 11 _, g, rfl, rfl, by exact HS.out.vals ok (i := 2) rfl⟩
    | 3, ho, hi, ha =>
      obtain rfl : _ = o := Option.some.inj ho
      have T2 : t 11 = .agg #[.int .i64 y.b, .int .i64 y.d, .int .i64 y.s, .int .i64 y.i] := hs.val 2 rfl (ha { on := 2, ground := .data } (by simp) rfl)
      have H2 := Lib.hid T2
      refine wpOp_step (i := 3) rfl (fun K hK => ?_)
      have HK : Shut (∀ a w, _ → K a w) := hK
      clear hK ho
      have HS := Lib.hid hs
      clear hs ha hi
      go_simp
      (with_reducible refine (OY _).mono ?_)
      rintro e' w' ⟨rfl, m⟩
      go_wp2_with fail
      exact HK.out _ _ ⟨upd e 3 true, upd (upd t 11 _) 12 _, g, rfl, rfl, by rw [upd_self H2.out]; exact (HS.out.grow m.below).vals ok (i := 3) rfl⟩
    | 4, ho, hi, ha =>
      obtain rfl : _ = o := Option.some.inj ho
      have hi : e 4 = false := hi
      refine wpOp_step (i := 4) rfl (fun K hK => ?_)
      have HK : Shut (∀ a w, _ → K a w) := hK
      clear hK ho
      have HS := Lib.hid hs
      have HI := Lib.hid hi
      clear hs ha hi
      go_simp
      exact HK.out _ _ ⟨upd e 4 true, upd t 5 _, upd g 4 _, rfl, rfl, HS.out.alloc ok (i := 4) rfl HI.out⟩
    | 5, ho, hi, ha =>
      obtain rfl : _ = o := Option.some.inj ho
      have hi : e 5 = false := hi
      refine wpOp_step (i := 5) rfl (fun K hK => ?_)
      have HK : Shut (∀ a w, _ → K a w) := hK
      clear hK ho
      have HS := Lib.hid hs
      have HI := Lib.hid hi
      clear hs ha hi
      go_simp
      exact HK.out _ _ ⟨upd e 5 true, upd t 6 _, upd g 5 _, rfl, rfl, HS.out.alloc ok (i := 5) rfl HI.out⟩
    | 6, ho, hi, ha =>
      obtain rfl : _ = o := Option.some.inj ho
      have hs0 : e 6 = false := hi
      have hea : e 4 = true := ha { on := 4, ground := .data } (by simp) rfl
      have t1 : t 5 = .pointer (some ⟨g 4, 0, none⟩) := (hs.box 4 rfl hea).1
      have t2 : t 10 = .agg #[.int .i64 x.b, .int .i64 x.d, .int .i64 x.s, .int .i64 x.i] := hs.val 1 rfl (ha { on := 1, ground := .data } (by simp) rfl)
      have T1 := Lib.hid t1
      have T2 := Lib.hid t2
      have hc : wr.heap[g 4]? = some (.cells #[.int .i64 0, .int .i64 0, .int .i64 0, .int .i64 0] 27 (0, 0)) := by have h := (hs.box 4 rfl hea).2.2; rw [show e ((plan1 x y).S 4) = false from hs0] at h; exact h
      have HS := Lib.hid (hs.store ok (i := 4) rfl hea only4 (set4 hc))
      obtain ⟨q0, q1, q2, q3, f0, f1, f2, f3, qz⟩ := cells4 hc
      refine wpOp_step (i := 6) rfl (fun K hK => ?_)
      have HK : Shut (∀ a w, _ → K a w) := hK
      clear hK ho
      clear hs ha hi hs0 hea hc
      go_simp
      exact HK.out _ _ ⟨upd e 6 true, upd (upd t 5 _) 10 _, g, rfl, rfl, by rw [upd_self T1.out, upd_self T2.out]; exact HS.out⟩
    | 7, ho, hi, ha =>
      obtain rfl : _ = o := Option.some.inj ho
      have hs0 : e 7 = false := hi
      have hea : e 5 = true := ha { on := 5, ground := .data } (by simp) rfl
      have t1 : t 6 = .pointer (some ⟨g 5, 0, none⟩) := (hs.box 5 rfl hea).1
      have t2 : t 12 = .agg #[.int .i64 y.b, .int .i64 y.d, .int .i64 y.s, .int .i64 y.i] := hs.val 3 rfl (ha { on := 3, ground := .data } (by simp) rfl)
      have T1 := Lib.hid t1
      have T2 := Lib.hid t2
      have hc : wr.heap[g 5]? = some (.cells #[.int .i64 0, .int .i64 0, .int .i64 0, .int .i64 0] 27 (0, 0)) := by have h := (hs.box 5 rfl hea).2.2; rw [show e ((plan1 x y).S 5) = false from hs0] at h; exact h
      have HS := Lib.hid (hs.store ok (i := 5) rfl hea only4 (set4 hc))
      obtain ⟨q0, q1, q2, q3, f0, f1, f2, f3, qz⟩ := cells4 hc
      refine wpOp_step (i := 7) rfl (fun K hK => ?_)
      have HK : Shut (∀ a w, _ → K a w) := hK
      clear hK ho
      clear hs ha hi hs0 hea hc
      go_simp
      exact HK.out _ _ ⟨upd e 7 true, upd (upd t 6 _) 12 _, g, rfl, rfl, by rw [upd_self T1.out, upd_self T2.out]; exact HS.out⟩
    | k + 8, ho, hi, ha => simp at ho
  case done =>
    rintro l a wr ⟨e, t, g, rfl, rfl, hs⟩ hr
    have hd := ready_done hr rfl (by decide +kernel)
    have e4 : e 4 = true := hd 4 (by decide)
    have e5 : e 5 = true := hd 5 (by decide)
    have e6 : e 6 = true := hd 6 (by decide)
    have e7 : e 7 = true := hd 7 (by decide)
    obtain ⟨p4, l4, b4⟩ := hs.box 4 rfl e4
    replace b4 : wr.heap[g 4]? = some (.cells #[.int .i64 x.b, .int .i64 x.d, .int .i64 x.s, .int .i64 x.i] 27 (0, 0)) := by rw [show e ((plan1 x y).S 4) = true from e6] at b4; exact b4
    replace p4 : t 5 = .pointer (some ⟨g 4, 0, none⟩) := p4
    obtain ⟨p5, l5, b5⟩ := hs.box 5 rfl e5
    replace b5 : wr.heap[g 5]? = some (.cells #[.int .i64 y.b, .int .i64 y.d, .int .i64 y.s, .int .i64 y.i] 27 (0, 0)) := by rw [show e ((plan1 x y).S 5) = true from e7] at b5; exact b5
    replace p5 : t 6 = .pointer (some ⟨g 5, 0, none⟩) := p5
    have A := Lib.hid (ebox_of (x := x) b4)
    have B := Lib.hid (ebox_of (x := y) b5)
    have X := Lib.hid (X.out.next hs.be)
    have Y := Lib.hid (Y.out.next hs.be)
    have M := Lib.hid (M.out.trans (hs.be.mono M.out.size))
    rw [p4, p5]
    generalize g 4 = ga at *
    generalize g 5 = gb at *
    generalize t 9 = u9
    generalize t 10 = u10
    generalize t 11 = u11
    generalize t 12 = u12
    clear b4 b5 p4 p5 l4 l5 e4 e5 e6 e7 hs hd hr OX OY ok
    clear t e g
    obtain ⟨w2, hw2⟩ : ∃ z, z = wr := ⟨wr, rfl⟩
    subst hw2
    go_wp2
    have ok : (plan2 x y).ok = true := rfl
    refine region_inv (Inv := fun l a wr => ∃ (e : Nat → Bool) (t : Nat → Value) (g : Nat → Nat), l = #[e 0, e 1, e 2, e 3, e 4, e 5] ∧ a = ⟨#[.agg #[.int .i64 x.b, .int .i64 x.d, .int .i64 x.s, .int .i64 x.i], .agg #[.int .i64 y.b, .int .i64 y.d, .int .i64 y.s, .int .i64 y.i], .pointer (some ⟨w.heap.size, 0, none⟩), .pointer (some ⟨w.heap.size + 1, 0, none⟩), .bool false, .pointer (some ⟨ga, 0, none⟩), .pointer (some ⟨gb, 0, none⟩), t 7, t 8, u9, u10, u11, u12, t 13, t 14, undef, undef, undef, undef, undef, undef, undef, undef, undef, undef, undef, undef, undef, undef, undef, undef, undef, undef, undef, undef, undef, undef, undef, undef, undef, undef, undef, undef, undef, undef, undef, undef, undef, undef, undef, undef, undef, undef], []⟩ ∧ Stage (plan2 x y) w2 e t g wr) (by kernel_rfl) ?step ?start ?done
    case start => exact ⟨fun _ => false, fun _ => undef, fun _ => 0, rfl, rfl, Stage.start _ _ _ _⟩
    case step =>
      rintro l a wr ⟨e, t, g, rfl, rfl, hs⟩ i o ho hi ha
      match i, ho, hi, ha with
      | 0, ho, hi, ha =>
        obtain rfl : _ = o := Option.some.inj ho
        refine wpOp_step (i := 0) rfl (fun K hK => ?_)
        have HK : Shut (∀ a w, _ → K a w) := hK
        clear hK ho
        obtain ⟨c0, c1, c2, c3, cz⟩ := X.out.next hs.be
        have HS := Lib.hid hs
        clear hs ha hi
        go_simp
        exact HK.out _ _ ⟨upd e 0 true, upd t 13 _, g, rfl, rfl, by exact HS.out.vals ok (i := 0) rfl⟩
      | 1, ho, hi, ha =>
        obtain rfl : _ = o := Option.some.inj ho
        refine wpOp_step (i := 1) rfl (fun K hK => ?_)
        have HK : Shut (∀ a w, _ → K a w) := hK
        clear hK ho
        obtain ⟨c0, c1, c2, c3, cz⟩ := Y.out.next hs.be
        have HS := Lib.hid hs
        clear hs ha hi
        go_simp
        exact HK.out _ _ ⟨upd e 1 true, upd t 14 _, g, rfl, rfl, by exact HS.out.vals ok (i := 1) rfl⟩
      | 2, ho, hi, ha =>
        obtain rfl : _ = o := Option.some.inj ho
        have hi : e 2 = false := hi
        refine wpOp_step (i := 2) rfl (fun K hK => ?_)
        have HK : Shut (∀ a w, _ → K a w) := hK
        clear hK ho
        have HS := Lib.hid hs
        have HI := Lib.hid hi
        clear hs ha hi
        go_simp
        exact HK.out _ _ ⟨upd e 2 true, upd t 7 _, upd g 2 _, rfl, rfl, HS.out.alloc ok (i := 2) rfl HI.out⟩
      | 3, ho, hi, ha =>
        obtain rfl : _ = o := Option.some.inj ho
        have hi : e 3 = false := hi
        refine wpOp_step (i := 3) rfl (fun K hK => ?_)
        have HK : Shut (∀ a w, _ → K a w) := hK
        clear hK ho
        have HS := Lib.hid hs
        have HI := Lib.hid hi
        clear hs ha hi
        go_simp
        exact HK.out _ _ ⟨upd e 3 true, upd t 8 _, upd g 3 _, rfl, rfl, HS.out.alloc ok (i := 3) rfl HI.out⟩
      | 4, ho, hi, ha =>
        obtain rfl : _ = o := Option.some.inj ho
        have hs0 : e 4 = false := hi
        have hea : e 2 = true := ha { on := 2, ground := .data } (by simp) rfl
        have t1 : t 7 = .pointer (some ⟨g 2, 0, none⟩) := (hs.box 2 rfl hea).1
        have t2 : t 13 = .agg #[.int .i64 x.b, .int .i64 x.d, .int .i64 x.s, .int .i64 x.i] := hs.val 0 rfl (ha { on := 0, ground := .data } (by simp) rfl)
        have T1 := Lib.hid t1
        have T2 := Lib.hid t2
        have hc : wr.heap[g 2]? = some (.cells #[.int .i64 0, .int .i64 0, .int .i64 0, .int .i64 0] 29 (0, 0)) := by have h := (hs.box 2 rfl hea).2.2; rw [show e ((plan2 x y).S 2) = false from hs0] at h; exact h
        have HS := Lib.hid (hs.store ok (i := 2) rfl hea only4 (set4 hc))
        obtain ⟨q0, q1, q2, q3, f0, f1, f2, f3, qz⟩ := cells4 hc
        refine wpOp_step (i := 4) rfl (fun K hK => ?_)
        have HK : Shut (∀ a w, _ → K a w) := hK
        clear hK ho
        clear hs ha hi hs0 hea hc
        go_simp
        exact HK.out _ _ ⟨upd e 4 true, upd (upd t 7 _) 13 _, g, rfl, rfl, by rw [upd_self T1.out, upd_self T2.out]; exact HS.out⟩
      | 5, ho, hi, ha =>
        obtain rfl : _ = o := Option.some.inj ho
        have hs0 : e 5 = false := hi
        have hea : e 3 = true := ha { on := 3, ground := .data } (by simp) rfl
        have t1 : t 8 = .pointer (some ⟨g 3, 0, none⟩) := (hs.box 3 rfl hea).1
        have t2 : t 14 = .agg #[.int .i64 y.b, .int .i64 y.d, .int .i64 y.s, .int .i64 y.i] := hs.val 1 rfl (ha { on := 1, ground := .data } (by simp) rfl)
        have T1 := Lib.hid t1
        have T2 := Lib.hid t2
        have hc : wr.heap[g 3]? = some (.cells #[.int .i64 0, .int .i64 0, .int .i64 0, .int .i64 0] 29 (0, 0)) := by have h := (hs.box 3 rfl hea).2.2; rw [show e ((plan2 x y).S 3) = false from hs0] at h; exact h
        have HS := Lib.hid (hs.store ok (i := 3) rfl hea only4 (set4 hc))
        obtain ⟨q0, q1, q2, q3, f0, f1, f2, f3, qz⟩ := cells4 hc
        refine wpOp_step (i := 5) rfl (fun K hK => ?_)
        have HK : Shut (∀ a w, _ → K a w) := hK
        clear hK ho
        clear hs ha hi hs0 hea hc
        go_simp
        exact HK.out _ _ ⟨upd e 5 true, upd (upd t 8 _) 14 _, g, rfl, rfl, by rw [upd_self T1.out, upd_self T2.out]; exact HS.out⟩
      | k + 6, ho, hi, ha => simp at ho
    case done =>
      rintro l a wr ⟨e, t, g, rfl, rfl, hs⟩ hr
      have hd := ready_done hr rfl (by decide +kernel)
      have e2 : e 2 = true := hd 2 (by decide)
      have e3 : e 3 = true := hd 3 (by decide)
      have e4 : e 4 = true := hd 4 (by decide)
      have e5 : e 5 = true := hd 5 (by decide)
      obtain ⟨p2, l2, b2⟩ := hs.box 2 rfl e2
      replace b2 : wr.heap[g 2]? = some (.cells #[.int .i64 x.b, .int .i64 x.d, .int .i64 x.s, .int .i64 x.i] 29 (0, 0)) := by rw [show e ((plan2 x y).S 2) = true from e4] at b2; exact b2
      replace p2 : t 7 = .pointer (some ⟨g 2, 0, none⟩) := p2
      obtain ⟨p3, l3, b3⟩ := hs.box 3 rfl e3
      replace b3 : wr.heap[g 3]? = some (.cells #[.int .i64 y.b, .int .i64 y.d, .int .i64 y.s, .int .i64 y.i] 29 (0, 0)) := by rw [show e ((plan2 x y).S 3) = true from e5] at b3; exact b3
      replace p3 : t 8 = .pointer (some ⟨g 3, 0, none⟩) := p3
      have F0 : Four w ga gb (g 2) (g 3) x y wr := ⟨A.out.next hs.be, B.out.next hs.be, ebox_of (x := x) b2, ebox_of (x := y) b3, HT.out.below (M.out.trans (hs.be.mono M.out.size)), M.out.trans (hs.be.mono M.out.size)⟩
      have F := Lib.hid (F0.next (Below.refl _ _).drew)
      clear F0
      rw [p2, p3]
      generalize g 2 = gc at *
      generalize g 3 = gd at *
      generalize t 13 = u13
      generalize t 14 = u14
      clear b2 b3 p2 p3 l2 l3 e2 e3 e4 e5 hs hd hr ok A B X Y M HT
      clear t e g
      go_wp2
      go_region_held3 (fun w' => w'.cell? ⟨ga, 0, none⟩ = some (.int .i64 x.b) ∧ w'.cell? ⟨ga, 1, none⟩ = some (.int .i64 x.d) ∧ w'.cell? ⟨ga, 2, none⟩ = some (.int .i64 x.s) ∧ w'.cell? ⟨ga, 3, none⟩ = some (.int .i64 x.i) ∧ w'.cell? ⟨gb, 0, none⟩ = some (.int .i64 y.b) ∧ w'.cell? ⟨gb, 1, none⟩ = some (.int .i64 y.d) ∧ w'.cell? ⟨gb, 2, none⟩ = some (.int .i64 y.s) ∧ w'.cell? ⟨gb, 3, none⟩ = some (.int .i64 y.i) ∧ w'.cell? ⟨gc, 0, none⟩ = some (.int .i64 x.b) ∧ w'.cell? ⟨gc, 1, none⟩ = some (.int .i64 x.d) ∧ w'.cell? ⟨gc, 2, none⟩ = some (.int .i64 x.s) ∧ w'.cell? ⟨gc, 3, none⟩ = some (.int .i64 x.i) ∧ w'.cell? ⟨gd, 0, none⟩ = some (.int .i64 y.b) ∧ w'.cell? ⟨gd, 1, none⟩ = some (.int .i64 y.d) ∧ w'.cell? ⟨gd, 2, none⟩ = some (.int .i64 y.s) ∧ w'.cell? ⟨gd, 3, none⟩ = some (.int .i64 y.i))
        (exact ⟨F.out.A.c0, F.out.A.c1, F.out.A.c2, F.out.A.c3, F.out.B.c0, F.out.B.c1, F.out.B.c2, F.out.B.c3, F.out.C.c0, F.out.C.c1, F.out.C.c2, F.out.C.c3, F.out.D.c0, F.out.D.c1, F.out.D.c2, F.out.D.c3⟩)
        (first
          | (go_at_call 7; (with_reducible refine (wakes_any _ F.out.T).mono ?_); rintro e wn ⟨rfl, m⟩; have F := Lib.hid (F.out.next m.below); clear m)
          | (go_at_call 8; (with_reducible refine (C1 _).mono ?_); rintro e wn ⟨rfl, m⟩; have F := Lib.hid (F.out.next m.below); clear m)
          | (go_at_call 9; (with_reducible refine (C2 _).mono ?_); rintro e wn ⟨rfl, m⟩; have F := Lib.hid (F.out.next m.below); clear m)
          | (go_at_call 10; (with_reducible refine (L1 _).mono ?_); rintro e wn ⟨rfl, m⟩; have F := Lib.hid (F.out.next m.below); clear m)
          | (go_at_call 11; (with_reducible refine (L2 _).mono ?_); rintro e wn ⟨rfl, m⟩; have F := Lib.hid (F.out.next m.below); clear m)
          | (go_at_call 10; (with_reducible refine (L3 _).mono ?_); rintro e wn ⟨rfl, m⟩; have F := Lib.hid (F.out.next m.below); clear m)
          | (go_at_call 11; (with_reducible refine (L4 _).mono ?_); rintro e wn ⟨rfl, m⟩; have F := Lib.hid (F.out.next m.below); clear m)
          | (go_at_call 12; (with_reducible refine (T1 _ F.out.T).mono ?_); rintro e wn ⟨rfl, m⟩; have F := Lib.hid (F.out.next m.below); clear m)
          | (go_at_call 13; (with_reducible refine (T2 _).mono ?_); rintro e wn ⟨rfl, m⟩; have F := Lib.hid (F.out.next m); clear m))
      all_goals
        have B := F.out.be
        clear F
        go_wp2
        go_ret
        exact ⟨rfl, B⟩


/-! ### the row -/
open Go.ChangeShapes Go.WideShapes Go.ChangeAt
theorem lifted (os : Os) (started : os.Started) (H : Type) (enc : TypeId × Value → H) :
    ReturnsInHanded {} Tryd.checked os 3 .any (fun w args => (Rows.keyOrdersSpec.pre enc Tryd.prog Tryd.f3 [] false w args ∧ laidMetH Tryd.prog laidL w) ∧ sizedMet enc Tryd.prog Tryd.f3 (OpenSpec.ofChange Rows.keyOrdersSpec) false w args)
      (Rows.keyOrdersSpec.post enc Tryd.prog Tryd.f3 false true false false) := by
  refine returnsInHanded_of_change_and (C := Tryd.checked) (X := fun w _ => laidMetH Tryd.prog laidL w) (fun _ _ _ hh h => h.of_heap hh) own started (by kernel_rfl) Tryd.func3
    (ChangeSpec.witness_shaped (enc := enc) (C := Tryd.checked) (os := os) (X := fun w _ => laidMetH Tryd.prog laidL w) false (World.doorLaid Tryd.prog 400 os) #[.agg #[.int .i64 0, .int .i64 0, .int .i64 0, .int .i64 0], .agg #[.int .i64 0, .int .i64 0, .int .i64 0, .int .i64 0]] 8 rfl (World.shaped_of_RefB (by kernel_rfl) (by kernel_rfl)) (by kernel_rfl) (by kernel_rfl) (by kernel_rfl) (door_met os _)) ?_
  intro W base args ds gs before hval0 hW _ hsz0 hL _
  have hval : ∀ (j : Nat) t v, Tryd.f3.params[j]? = some t → args[j]? = some v → Value.okWide Tryd.prog W .any base t v := hval0
  have hW' := hW
  obtain ⟨p, q, hA0, hV, rfl, hfz, hnd⟩ := hW
  have hA : DataW.TrodAll enc Tryd.prog W 0 (fun _ => true) true Tryd.f3.params.toList args.toList ds p := hA0
  rw [Tryd.params3] at hA hval
  obtain ⟨v0, vs0, d0, ds0, p0, q0, hargs, rfl, rfl, h0, r0⟩ := trodAll_cons hA
  obtain ⟨v1, vs1, d1, ds1, p1, q1, rfl, rfl, rfl, h1, r1⟩ := trodAll_cons r0
  obtain ⟨rfl, rfl, rfl⟩ := trodAll_nil r1
  obtain rfl : args = #[v0, v1] := by cases args; simp_all
  obtain ⟨rfl, rfl⟩ := trodVars_none hV
  have k0 := h0
  have lt0 : ∀ x ∈ p0, x.block < W.heap.size := by obtain ⟨m, hm⟩ := k0; exact DataW.trod_lt m _ _ _ hm
  obtain ⟨x0, w0, rfl⟩ := open_ent (hval 0 23 v0 rfl rfl) h0
  have k1 := h1
  have lt1 : ∀ x ∈ p1, x.block < W.heap.size := by obtain ⟨m, hm⟩ := k1; exact DataW.trod_lt m _ _ _ hm
  obtain ⟨x1, w1, rfl⟩ := open_ent (hval 1 23 v1 rfl rfl) h1
  clear hA0 hval0
  refine (walk x0 x1 W w0 w1 (tabOk_of_laid hL)).mono fun e W' ⟨he, bel⟩ => ?_
  subst he
  exact ⟨_, rfl, _, _, _, [], _, [], hW', trodAll_mk1 (shut_bool Tryd.underlying4 _), (trodAll_cons_mk (Below.trod laidOut (by kernel_rfl) (of_decide_eq_true (by kernel_rfl)) k0 bel lt0) (trodAll_cons_mk (Below.trod laidOut (by kernel_rfl) (of_decide_eq_true (by kernel_rfl)) k1 bel lt1) trodAll_mk0)), rfl, bel.frame _, fun h => by cases h⟩

theorem over : Rows.keyOrdersRow.holds Tryd.pinned (OpenSpec.ofChange Rows.keyOrdersSpec) :=
  OpenClaim.holds_of_wide 3 Tryd.f3 rfl rfl rfl rfl rfl rfl rfl ⟨rfl, rfl, rfl, rfl, rfl⟩ rfl rfl rfl rfl rfl (by kernel_rfl) Tryd.func3 (by kernel_rfl)
    (of_decide_eq_true (by kernel_rfl)) (by unfold Func.isWrapper; first | (rw [if_pos (by decide +kernel)]; kernel_rfl) | (rw [if_neg (by decide +kernel)]; exact ⟨rfl, rfl⟩))
    (fun os started H enc _ => lifted os started H enc)

theorem card : Rows.KeyOrdersCardSaid :=
  Claim7.holds_tied_plain_at .later [] [.data, .data, .data] true _ false
    over (fun _ h => by cases h) (by kernel_rfl) (fun _ h => by cases h) keyOrders_row_tie rfl ⟨rfl, rfl⟩ (by kernel_rfl) rfl
    (fun f fn hf hfn => by
      obtain rfl : f = 3 := Option.some.inj ((show Tryd.prog.funcNamed Rows.keyOrdersRow.func = some 3 by kernel_rfl).symm.trans hf) |>.symm
      obtain rfl : fn = Tryd.f3 := (Option.some.inj (Tryd.func3.symm.trans hfn)).symm
      exact ⟨by kernel_rfl, fun j t ht => by
        rw [Tryd.params3] at ht
        have hm : t ∈ [23, 23] := by simpa using Array.mem_of_getElem? ht
        have hall : ([23, 23].all fun u => !Tryd.prog.wantsStandIn u) = true := by kernel_rfl
        exact (show Tryd.prog.wantsStandIn t = false by simpa using List.all_eq_true.1 hall t hm)⟩)
    (by kernel_rfl)

end Go.Proofs.YthfdpnmdcmpgbaaDoor.keyOrders
namespace Go.Proofs.YthfdpnmdcmpgbaaDoor
theorem keyOrders_holds : Rows.KeyOrdersCardSaid := keyOrders.card
#print axioms keyOrders_holds
end Go.Proofs.YthfdpnmdcmpgbaaDoor

