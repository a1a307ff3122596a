/-
  KeyChain: of three entries the order goes on from one to the next; of two that aren't the same just one comes first (P4.1). For every three entries.
  Conditions: those of the given row (the library's tables lie as their initialisers lay them).
-/
import Derived.Test.YthfdpnmdcmpgbaaDoorKeyText2
import Derived.Test.YthfdpnmdcmpgbaaDoorKeyFrame
import Derived.Test.YthfdpnmdcmpgbaaDoorEntryKit
namespace Go.Proofs.YthfdpnmdcmpgbaaDoor.keyChain
set_option maxRecDepth 100000
open Go.RowKit Go.Sort
def plan1 (x y z : En) : Plan := { ks := [0, 0, 0, 0, 0, 0, 1, 1, 1, 2, 2, 2], ds := [10, 11, 12, 13, 14, 15, 7, 8, 9, 0, 0, 0], vs := [.agg #[.int .i64 x.b, .int .i64 x.d, .int .i64 x.s, .int .i64 x.i], .agg #[.int .i64 x.b, .int .i64 x.d, .int .i64 x.s, .int .i64 x.i], .agg #[.int .i64 y.b, .int .i64 y.d, .int .i64 y.s, .int .i64 y.i], .agg #[.int .i64 y.b, .int .i64 y.d, .int .i64 y.s, .int .i64 y.i], .agg #[.int .i64 z.b, .int .i64 z.d, .int .i64 z.s, .int .i64 z.i], .agg #[.int .i64 z.b, .int .i64 z.d, .int .i64 z.s, .int .i64 z.i], undef, undef, undef, undef, undef, undef], ss := [0, 0, 0, 0, 0, 0, 9, 10, 11, 0, 0, 0], zs := [#[], #[], #[], #[], #[], #[], #[.int .i64 0, .int .i64 0, .int .i64 0, .int .i64 0], #[.int .i64 0, .int .i64 0, .int .i64 0, .int .i64 0], #[.int .i64 0, .int .i64 0, .int .i64 0, .int .i64 0], #[], #[], #[]], fs := [#[], #[], #[], #[], #[], #[], #[.int .i64 x.b, .int .i64 x.d, .int .i64 x.s, .int .i64 x.i], #[.int .i64 y.b, .int .i64 y.d, .int .i64 y.s, .int .i64 y.i], #[.int .i64 z.b, .int .i64 z.d, .int .i64 z.s, .int .i64 z.i], #[], #[], #[]], ts := [0, 0, 0, 0, 0, 0, 27, 27, 27, 0, 0, 0] }
def planL (x y : En) (ga gb : Nat) (k1 k2 : Int) : Plan := { ks := [0, 0, 0, 0, 0, 0, 0, 0, 0, 0, 0, 0, 0, 0, 0, 0, 0, 0, 0, 0, 0, 0, 0, 0, 0, 0, 0, 0, 0, 0, 0, 0, 0, 0, 0, 0, 0, 0, 0, 0, 0, 0, 0], ds := [30, 31, 32, 33, 34, 35, 36, 37, 38, 39, 40, 41, 42, 43, 44, 45, 46, 47, 48, 49, 50, 51, 52, 53, 54, 55, 56, 57, 58, 59, 60, 61, 62, 63, 64, 65, 66, 67, 68, 69, 70, 71, 6], vs := [.bool true, .bool true, .agg #[.int .i64 x.b, .int .i64 x.d, .int .i64 x.s, .int .i64 x.i], .agg #[.int .i64 y.b, .int .i64 y.d, .int .i64 y.s, .int .i64 y.i], .bool false, .agg #[.int .i64 x.b, .int .i64 x.d, .int .i64 x.s, .int .i64 x.i], .agg #[.int .i64 y.b, .int .i64 y.d, .int .i64 y.s, .int .i64 y.i], .bool true, .bool false, .bool false, undef, undef, undef, undef, .bool false, .bool true, .bool true, .bool true, .agg #[.int .i64 x.b, .int .i64 x.d, .int .i64 x.s, .int .i64 x.i], .agg #[.int .i64 y.b, .int .i64 y.d, .int .i64 y.s, .int .i64 y.i], .bool true, .bool true, .agg #[.int .i64 y.b, .int .i64 y.d, .int .i64 y.s, .int .i64 y.i], .agg #[.int .i64 x.b, .int .i64 x.d, .int .i64 x.s, .int .i64 x.i], .bool false, .bool false, .bool true, .bool true, .bool true, .pointer (some ⟨ga, 0, none⟩), .agg #[.int .i64 x.b, .int .i64 x.d, .int .i64 x.s], .pointer (some ⟨gb, 0, none⟩), .agg #[.int .i64 y.b, .int .i64 y.d, .int .i64 y.s], .int .i64 k1, .pointer (some ⟨gb, 0, none⟩), .agg #[.int .i64 y.b, .int .i64 y.d, .int .i64 y.s], .pointer (some ⟨ga, 0, none⟩), .agg #[.int .i64 x.b, .int .i64 x.d, .int .i64 x.s], .int .i64 k2, .int .i64 k1, .bool true, .bool true, .bool true], ss := [0, 0, 0, 0, 0, 0, 0, 0, 0, 0, 0, 0, 0, 0, 0, 0, 0, 0, 0, 0, 0, 0, 0, 0, 0, 0, 0, 0, 0, 0, 0, 0, 0, 0, 0, 0, 0, 0, 0, 0, 0, 0, 0], zs := [#[], #[], #[], #[], #[], #[], #[], #[], #[], #[], #[], #[], #[], #[], #[], #[], #[], #[], #[], #[], #[], #[], #[], #[], #[], #[], #[], #[], #[], #[], #[], #[], #[], #[], #[], #[], #[], #[], #[], #[], #[], #[], #[]], fs := [#[], #[], #[], #[], #[], #[], #[], #[], #[], #[], #[], #[], #[], #[], #[], #[], #[], #[], #[], #[], #[], #[], #[], #[], #[], #[], #[], #[], #[], #[], #[], #[], #[], #[], #[], #[], #[], #[], #[], #[], #[], #[], #[]], ts := [0, 0, 0, 0, 0, 0, 0, 0, 0, 0, 0, 0, 0, 0, 0, 0, 0, 0, 0, 0, 0, 0, 0, 0, 0, 0, 0, 0, 0, 0, 0, 0, 0, 0, 0, 0, 0, 0, 0, 0, 0, 0, 0] }
def planE (x y : En) (ga gb : Nat) (k1 k2 : Int) : Plan := { ks := [0, 0, 0, 0, 0, 0, 0, 0, 0, 0, 0, 0, 0, 0, 0, 0, 0, 0, 0, 0, 0, 0, 0, 0, 0, 0, 0, 0, 0, 0, 0, 0, 0, 0, 0, 0, 0, 0, 0, 0, 0, 0, 0], ds := [30, 31, 32, 33, 34, 35, 36, 37, 38, 39, 40, 41, 42, 43, 44, 45, 46, 47, 48, 49, 50, 51, 52, 53, 54, 55, 56, 57, 58, 59, 60, 61, 62, 63, 64, 65, 66, 67, 68, 69, 70, 71, 6], vs := [.bool true, .bool true, .agg #[.int .i64 x.b, .int .i64 x.d, .int .i64 x.s, .int .i64 x.i], .agg #[.int .i64 y.b, .int .i64 y.d, .int .i64 y.s, .int .i64 y.i], .bool true, .agg #[.int .i64 x.b, .int .i64 x.d, .int .i64 x.s, .int .i64 x.i], .agg #[.int .i64 y.b, .int .i64 y.d, .int .i64 y.s, .int .i64 y.i], .bool false, .bool true, .bool true, .agg #[.int .i64 y.b, .int .i64 y.d, .int .i64 y.s, .int .i64 y.i], .agg #[.int .i64 x.b, .int .i64 x.d, .int .i64 x.s, .int .i64 x.i], .bool false, .bool true, .bool true, .bool true, .bool true, .bool true, .agg #[.int .i64 x.b, .int .i64 x.d, .int .i64 x.s, .int .i64 x.i], .agg #[.int .i64 y.b, .int .i64 y.d, .int .i64 y.s, .int .i64 y.i], .bool false, .bool false, undef, undef, undef, .bool false, .bool true, .bool true, .bool true, .pointer (some ⟨ga, 0, none⟩), .agg #[.int .i64 x.b, .int .i64 x.d, .int .i64 x.s], .pointer (some ⟨gb, 0, none⟩), .agg #[.int .i64 y.b, .int .i64 y.d, .int .i64 y.s], .int .i64 k1, .pointer (some ⟨gb, 0, none⟩), .agg #[.int .i64 y.b, .int .i64 y.d, .int .i64 y.s], .pointer (some ⟨ga, 0, none⟩), .agg #[.int .i64 x.b, .int .i64 x.d, .int .i64 x.s], .int .i64 k2, .int .i64 k1, .bool true, .bool true, .bool true], ss := [0, 0, 0, 0, 0, 0, 0, 0, 0, 0, 0, 0, 0, 0, 0, 0, 0, 0, 0, 0, 0, 0, 0, 0, 0, 0, 0, 0, 0, 0, 0, 0, 0, 0, 0, 0, 0, 0, 0, 0, 0, 0, 0], zs := [#[], #[], #[], #[], #[], #[], #[], #[], #[], #[], #[], #[], #[], #[], #[], #[], #[], #[], #[], #[], #[], #[], #[], #[], #[], #[], #[], #[], #[], #[], #[], #[], #[], #[], #[], #[], #[], #[], #[], #[], #[], #[], #[]], fs := [#[], #[], #[], #[], #[], #[], #[], #[], #[], #[], #[], #[], #[], #[], #[], #[], #[], #[], #[], #[], #[], #[], #[], #[], #[], #[], #[], #[], #[], #[], #[], #[], #[], #[], #[], #[], #[], #[], #[], #[], #[], #[], #[]], ts := [0, 0, 0, 0, 0, 0, 0, 0, 0, 0, 0, 0, 0, 0, 0, 0, 0, 0, 0, 0, 0, 0, 0, 0, 0, 0, 0, 0, 0, 0, 0, 0, 0, 0, 0, 0, 0, 0, 0, 0, 0, 0, 0] }
def planG (x y : En) (ga gb : Nat) (k1 k2 : Int) : Plan := { ks := [0, 0, 0, 0, 0, 0, 0, 0, 0, 0, 0, 0, 0, 0, 0, 0, 0, 0, 0, 0, 0, 0, 0, 0, 0, 0, 0, 0, 0, 0, 0, 0, 0, 0, 0, 0, 0, 0, 0, 0, 0, 0, 0], ds := [30, 31, 32, 33, 34, 35, 36, 37, 38, 39, 40, 41, 42, 43, 44, 45, 46, 47, 48, 49, 50, 51, 52, 53, 54, 55, 56, 57, 58, 59, 60, 61, 62, 63, 64, 65, 66, 67, 68, 69, 70, 71, 6], vs := [.bool true, .bool true, .agg #[.int .i64 x.b, .int .i64 x.d, .int .i64 x.s, .int .i64 x.i], .agg #[.int .i64 y.b, .int .i64 y.d, .int .i64 y.s, .int .i64 y.i], .bool false, .agg #[.int .i64 x.b, .int .i64 x.d, .int .i64 x.s, .int .i64 x.i], .agg #[.int .i64 y.b, .int .i64 y.d, .int .i64 y.s, .int .i64 y.i], .bool false, .bool true, .bool true, .agg #[.int .i64 y.b, .int .i64 y.d, .int .i64 y.s, .int .i64 y.i], .agg #[.int .i64 x.b, .int .i64 x.d, .int .i64 x.s, .int .i64 x.i], .bool true, .bool false, .bool false, .bool true, .bool true, .bool true, .agg #[.int .i64 x.b, .int .i64 x.d, .int .i64 x.s, .int .i64 x.i], .agg #[.int .i64 y.b, .int .i64 y.d, .int .i64 y.s, .int .i64 y.i], .bool false, .bool false, undef, undef, undef, .bool false, .bool true, .bool true, .bool true, .pointer (some ⟨ga, 0, none⟩), .agg #[.int .i64 x.b, .int .i64 x.d, .int .i64 x.s], .pointer (some ⟨gb, 0, none⟩), .agg #[.int .i64 y.b, .int .i64 y.d, .int .i64 y.s], .int .i64 k1, .pointer (some ⟨gb, 0, none⟩), .agg #[.int .i64 y.b, .int .i64 y.d, .int .i64 y.s], .pointer (some ⟨ga, 0, none⟩), .agg #[.int .i64 x.b, .int .i64 x.d, .int .i64 x.s], .int .i64 k2, .int .i64 k1, .bool true, .bool true, .bool true], ss := [0, 0, 0, 0, 0, 0, 0, 0, 0, 0, 0, 0, 0, 0, 0, 0, 0, 0, 0, 0, 0, 0, 0, 0, 0, 0, 0, 0, 0, 0, 0, 0, 0, 0, 0, 0, 0, 0, 0, 0, 0, 0, 0], zs := [#[], #[], #[], #[], #[], #[], #[], #[], #[], #[], #[], #[], #[], #[], #[], #[], #[], #[], #[], #[], #[], #[], #[], #[], #[], #[], #[], #[], #[], #[], #[], #[], #[], #[], #[], #[], #[], #[], #[], #[], #[], #[], #[]], fs := [#[], #[], #[], #[], #[], #[], #[], #[], #[], #[], #[], #[], #[], #[], #[], #[], #[], #[], #[], #[], #[], #[], #[], #[], #[], #[], #[], #[], #[], #[], #[], #[], #[], #[], #[], #[], #[], #[], #[], #[], #[], #[], #[]], ts := [0, 0, 0, 0, 0, 0, 0, 0, 0, 0, 0, 0, 0, 0, 0, 0, 0, 0, 0, 0, 0, 0, 0, 0, 0, 0, 0, 0, 0, 0, 0, 0, 0, 0, 0, 0, 0, 0, 0, 0, 0, 0, 0] }
/-- Three variables that hold entries; the world has grown; the table stands. -/
structure Three (w : World) (ga gb gc : Nat) (x y z : En) (wr : World) : Prop where
  mk ::
  A : EBox ga x wr
  B : EBox gb y wr
  C : EBox gc z wr
  T : TabOk wr
  be : Below w.heap.size w wr
theorem Three.next {w wr w' : World} {ga gb gc : Nat} {x y z : En} (h : Three w ga gb gc x y z wr) (hb : Below wr.heap.size wr w') : Three w ga gb gc x y z w' :=
  ⟨h.A.next hb, h.B.next hb, h.C.next hb, h.T.below hb, h.be.trans (hb.mono h.be.size)⟩

theorem ifs_yes {x y : En} (h : x = y) {α : Type} (A B : α) : (if x.b = y.b then if x.d = y.d then if x.s = y.s then if x.i = y.i then A else B else B else B else B) = A := by
  subst h; simp
theorem ifs_no {x y : En} (h : x ≠ y) {α : Type} (A B : α) : (if x.b = y.b then if x.d = y.d then if x.s = y.s then if x.i = y.i then A else B else B else B else B) = B := by
  split
  · split
    · split
      · split
        · rename_i h1 h2 h3 h4
          exact absurd (by cases x; cases y; simp_all) h
        · rfl
      · rfl
    · rfl
  · rfl

set_option maxHeartbeats 40000000 in
theorem walk (x y z : En) (w : World) (_hx : EnOk x) (_hy : EnOk y) (_hz : EnOk z) (hT : TabOk w) :
    Calls Tryd.prog 5 #[entV x, entV y, entV z] w fun e w' => e = .returned (.bool true) ∧ Below w.heap.size w w' := by
  have OX := of_any x
  have OY := of_any y
  have OZ := of_any z
  obtain ⟨x0, y0, z0, m0⟩ := ebox3 w x y z 23
  have X := Lib.hid x0
  have Y := Lib.hid y0
  have Z := Lib.hid z0
  have M := Lib.hid m0.below
  clear x0 y0 z0 m0
  have HT := Lib.hid hT
  clear hT _hx _hy _hz
  have C1 := compare_any x.b x.d x.s y.b y.d y.s
  have C2 := compare_any y.b y.d y.s x.b x.d x.s
  have neg : Hid (IntKind.i64.wrap (-(kcm y.b y.d y.s x.b x.d x.s)) = kcm x.b x.d x.s y.b y.d y.s) := by
    show _ = _
    rw [kcm_turn x.b x.d x.s]
    rcases kcm_range y.b y.d y.s x.b x.d x.s with h | h | h <;> rw [h] <;> rfl
  generalize kcm x.b x.d x.s y.b y.d y.s = k1 at C1 neg
  generalize kcm y.b y.d y.s x.b x.d x.s = k2 at C2 neg
  have L1 := less_any x y
  have L2 := less_any y x
  have L3 := less_any y z
  have L4 := less_any x z
  have key : (Hid (x ≠ y) ∧ eltB x y = true ∧ eltB y x = false ∧ ((eltB y z = true ∧ eltB x z = true) ∨ eltB y z = false)) ∨ (Hid (x = y) ∧ eltB x y = false ∧ eltB y x = false) ∨ (Hid (x ≠ y) ∧ eltB x y = false ∧ eltB y x = true) := by
    rcases elt_total x y with h | h | h
    · left
      refine ⟨by rintro rfl; exact elt_irrefl _ h, (eltB_iff _ _).2 h, (eltB_false _ _).2 (elt_asymm h), ?_⟩
      cases hh : eltB y z with
      | true => exact .inl ⟨rfl, (eltB_iff _ _).2 (elt_trans h ((eltB_iff _ _).1 hh))⟩
      | false => exact .inr rfl
    · right; left
      subst h
      exact ⟨rfl, (eltB_false _ _).2 (elt_irrefl _), (eltB_false _ _).2 (elt_irrefl _)⟩
    · right; right
      exact ⟨by rintro rfl; exact elt_irrefl _ h, (eltB_false _ _).2 (elt_asymm h), (eltB_iff _ _).2 h⟩
  have KEY := Lib.hid key
  clear key
  unfold entV at *
  go_enter Tryd.func5, Tryd.ntmps5
  go_wp2
  generalize (((w.alloc (.cells #[.int .i64 x.b, .int .i64 x.d, .int .i64 x.s, .int .i64 x.i] 23)).alloc (.cells #[.int .i64 y.b, .int .i64 y.d, .int .i64 y.s, .int .i64 y.i] 23)).alloc (.cells #[.int .i64 z.b, .int .i64 z.d, .int .i64 z.s, .int .i64 z.i] 23)) = w1 at *
  have ok : (plan1 x y z).ok = true := rfl
  refine region_inv (Inv := fun l a wr => ∃ (e : Nat → Bool) (t : Nat → Value) (g : Nat → Nat), l = #[e 0, e 1, e 2, e 3, e 4, e 5, e 6, e 7, e 8, e 9, e 10, e 11] ∧ a = ⟨#[.agg #[.int .i64 x.b, .int .i64 x.d, .int .i64 x.s, .int .i64 x.i], .agg #[.int .i64 y.b, .int .i64 y.d, .int .i64 y.s, .int .i64 y.i], .agg #[.int .i64 z.b, .int .i64 z.d, .int .i64 z.s, .int .i64 z.i], .pointer (some ⟨w.heap.size, 0, none⟩), .pointer (some ⟨w.heap.size + 1, 0, none⟩), .pointer (some ⟨w.heap.size + 1 + 1, 0, none⟩), .bool false, t 7, t 8, t 9, t 10, t 11, t 12, t 13, t 14, t 15, undef, undef, undef, undef, undef, undef, undef, undef, undef, undef, undef, undef, undef, undef, undef, undef, undef, undef, undef, undef, undef, undef, undef, undef, undef, undef, undef, undef, undef, undef, undef, undef, undef, undef, undef, undef, undef, undef, undef, undef, undef, undef, undef, undef, undef, undef, undef, undef, undef, undef, undef, undef, undef, undef, undef, undef], []⟩ ∧ Stage (plan1 x y z) w1 e t g wr) (by kernel_rfl) ?step ?start ?done
  case start => exact ⟨fun _ => false, fun _ => undef, fun _ => 0, rfl, rfl, Stage.start _ _ _ _⟩
  case step =>
    rintro l a wr ⟨e, t, g, rfl, rfl, hs⟩ i o ho hi ha
    match i, ho, hi, ha with
    | 0, ho, hi, ha =>
      obtain rfl : _ = o := Option.some.inj ho
      refine wpOp_step (i := 0) rfl (fun K hK => ?_)
      have HK : Shut (∀ a w, _ → K a w) := hK
      clear hK ho
      obtain ⟨c0, c1, c2, c3, cz⟩ := X.out.next hs.be
      have HS := Lib.hid hs
      clear hs ha hi
      go_simp
      exact HK.out _ _ ⟨upd e 0 true, upd t 10 _, g, rfl, rfl, by exact HS.out.vals ok (i := 0) rfl⟩
    | 1, ho, hi, ha =>
      obtain rfl : _ = o := Option.some.inj ho
      have T0 : t 10 = .agg #[.int .i64 x.b, .int .i64 x.d, .int .i64 x.s, .int .i64 x.i] := hs.val 0 rfl (ha { on := 0, ground := .data } (by simp) rfl)
      have H0 := Lib.hid T0
      refine wpOp_step (i := 1) rfl (fun K hK => ?_)
      have HK : Shut (∀ a w, _ → K a w) := hK
      clear hK ho
      have HS := Lib.hid hs
      clear hs ha hi
      go_simp
      (with_reducible refine (OX _).mono ?_)
      rintro e' w' ⟨rfl, m⟩
      go_wp2_with fail
      exact HK.out _ _ ⟨upd e 1 true, upd (upd t 10 _) 11 _, g, rfl, rfl, by rw [upd_self H0.out]; exact (HS.out.grow m.below).vals ok (i := 1) rfl⟩
    | 2, ho, hi, ha =>
      obtain rfl : _ = o := Option.some.inj ho
      refine wpOp_step (i := 2) rfl (fun K hK => ?_)
      have HK : Shut (∀ a w, _ → K a w) := hK
      clear hK ho
      obtain ⟨c0, c1, c2, c3, cz⟩ := Y.out.next hs.be
      have HS := Lib.hid hs
      clear hs ha hi
      go_simp
      exact HK.out _ _ ⟨upd e 2 true, upd t 12 _, g, rfl, rfl, by exact HS.out.vals ok (i := 2) rfl⟩
    | 3, ho, hi, ha =>
      obtain rfl : _ = o := Option.some.inj ho
      have T2 : t 12 = .agg #[.int .i64 y.b, .int .i64 y.d, .int .i64 y.s, .int .i64 y.i] := hs.val 2 rfl (ha { on := 2, ground := .data } (by simp) rfl)
      have H2 := Lib.hid T2
      refine wpOp_step (i := 3) rfl (fun K hK => ?_)
      have HK : Shut (∀ a w, _ → K a w) := hK
      clear hK ho
      have HS := Lib.hid hs
      clear hs ha hi
      go_simp
      (with_reducible refine (OY _).mono ?_)
      rintro e' w' ⟨rfl, m⟩
      go_wp2_with fail
      exact HK.out _ _ ⟨upd e 3 true, upd (upd t 12 _) 13 _, g, rfl, rfl, by rw [upd_self H2.out]; exact (HS.out.grow m.below).vals ok (i := 3) rfl⟩
    | 4, ho, hi, ha =>
      obtain rfl : _ = o := Option.some.inj ho
      refine wpOp_step (i := 4) rfl (fun K hK => ?_)
      have HK : Shut (∀ a w, _ → K a w) := hK
      clear hK ho
      obtain ⟨c0, c1, c2, c3, cz⟩ := Z.out.next hs.be
      have HS := Lib.hid hs
      clear hs ha hi
      go_simp
      exact HK.out _ _ ⟨upd e 4 true, upd t 14 _, g, rfl, rfl, by exact HS.out.vals ok (i := 4) rfl⟩
    | 5, ho, hi, ha =>
      obtain rfl : _ = o := Option.some.inj ho
      have T4 : t 14 = .agg #[.int .i64 z.b, .int .i64 z.d, .int .i64 z.s, .int .i64 z.i] := hs.val 4 rfl (ha { on := 4, ground := .data } (by simp) rfl)
      have H4 := Lib.hid T4
      refine wpOp_step (i := 5) rfl (fun K hK => ?_)
      have HK : Shut (∀ a w, _ → K a w) := hK
      clear hK ho
      have HS := Lib.hid hs
      clear hs ha hi
      go_simp
      (with_reducible refine (OZ _).mono ?_)
      rintro e' w' ⟨rfl, m⟩
      go_wp2_with fail
      exact HK.out _ _ ⟨upd e 5 true, upd (upd t 14 _) 15 _, g, rfl, rfl, by rw [upd_self H4.out]; exact (HS.out.grow m.below).vals ok (i := 5) rfl⟩
    | 6, ho, hi, ha =>
      obtain rfl : _ = o := Option.some.inj ho
      have hi : e 6 = false := hi
      refine wpOp_step (i := 6) rfl (fun K hK => ?_)
      have HK : Shut (∀ a w, _ → K a w) := hK
      clear hK ho
      have HS := Lib.hid hs
      have HI := Lib.hid hi
      clear hs ha hi
      go_simp
      exact HK.out _ _ ⟨upd e 6 true, upd t 7 _, upd g 6 _, rfl, rfl, HS.out.alloc ok (i := 6) rfl HI.out⟩
    | 7, ho, hi, ha =>
      obtain rfl : _ = o := Option.some.inj ho
      have hi : e 7 = false := hi
      refine wpOp_step (i := 7) rfl (fun K hK => ?_)
      have HK : Shut (∀ a w, _ → K a w) := hK
      clear hK ho
      have HS := Lib.hid hs
      have HI := Lib.hid hi
      clear hs ha hi
      go_simp
      exact HK.out _ _ ⟨upd e 7 true, upd t 8 _, upd g 7 _, rfl, rfl, HS.out.alloc ok (i := 7) rfl HI.out⟩
    | 8, ho, hi, ha =>
      obtain rfl : _ = o := Option.some.inj ho
      have hi : e 8 = false := hi
      refine wpOp_step (i := 8) rfl (fun K hK => ?_)
      have HK : Shut (∀ a w, _ → K a w) := hK
      clear hK ho
      have HS := Lib.hid hs
      have HI := Lib.hid hi
      clear hs ha hi
      go_simp
      exact HK.out _ _ ⟨upd e 8 true, upd t 9 _, upd g 8 _, rfl, rfl, HS.out.alloc ok (i := 8) rfl HI.out⟩
    | 9, ho, hi, ha =>
      obtain rfl : _ = o := Option.some.inj ho
      have hs0 : e 9 = false := hi
      have hea : e 6 = true := ha { on := 6, ground := .data } (by simp) rfl
      have t1 : t 7 = .pointer (some ⟨g 6, 0, none⟩) := (hs.box 6 rfl hea).1
      have t2 : t 11 = .agg #[.int .i64 x.b, .int .i64 x.d, .int .i64 x.s, .int .i64 x.i] := hs.val 1 rfl (ha { on := 1, ground := .data } (by simp) rfl)
      have T1 := Lib.hid t1
      have T2 := Lib.hid t2
      have hc : wr.heap[g 6]? = some (.cells #[.int .i64 0, .int .i64 0, .int .i64 0, .int .i64 0] 27 (0, 0)) := by have h := (hs.box 6 rfl hea).2.2; rw [show e ((plan1 x y z).S 6) = false from hs0] at h; exact h
      have HS := Lib.hid (hs.store ok (i := 6) rfl hea only4 (set4 hc))
      obtain ⟨q0, q1, q2, q3, f0, f1, f2, f3, qz⟩ := cells4 hc
      refine wpOp_step (i := 9) rfl (fun K hK => ?_)
      have HK : Shut (∀ a w, _ → K a w) := hK
      clear hK ho
      clear hs ha hi hs0 hea hc
      go_simp
      exact HK.out _ _ ⟨upd e 9 true, upd (upd t 7 _) 11 _, g, rfl, rfl, by rw [upd_self T1.out, upd_self T2.out]; exact HS.out⟩
    | 10, ho, hi, ha =>
      obtain rfl : _ = o := Option.some.inj ho
      have hs0 : e 10 = false := hi
      have hea : e 7 = true := ha { on := 7, ground := .data } (by simp) rfl
      have t1 : t 8 = .pointer (some ⟨g 7, 0, none⟩) := (hs.box 7 rfl hea).1
      have t2 : t 13 = .agg #[.int .i64 y.b, .int .i64 y.d, .int .i64 y.s, .int .i64 y.i] := hs.val 3 rfl (ha { on := 3, ground := .data } (by simp) rfl)
      have T1 := Lib.hid t1
      have T2 := Lib.hid t2
      have hc : wr.heap[g 7]? = some (.cells #[.int .i64 0, .int .i64 0, .int .i64 0, .int .i64 0] 27 (0, 0)) := by have h := (hs.box 7 rfl hea).2.2; rw [show e ((plan1 x y z).S 7) = false from hs0] at h; exact h
      have HS := Lib.hid (hs.store ok (i := 7) rfl hea only4 (set4 hc))
      obtain ⟨q0, q1, q2, q3, f0, f1, f2, f3, qz⟩ := cells4 hc
      refine wpOp_step (i := 10) rfl (fun K hK => ?_)
      have HK : Shut (∀ a w, _ → K a w) := hK
      clear hK ho
      clear hs ha hi hs0 hea hc
      go_simp
      exact HK.out _ _ ⟨upd e 10 true, upd (upd t 8 _) 13 _, g, rfl, rfl, by rw [upd_self T1.out, upd_self T2.out]; exact HS.out⟩
    | 11, ho, hi, ha =>
      obtain rfl : _ = o := Option.some.inj ho
      have hs0 : e 11 = false := hi
      have hea : e 8 = true := ha { on := 8, ground := .data } (by simp) rfl
      have t1 : t 9 = .pointer (some ⟨g 8, 0, none⟩) := (hs.box 8 rfl hea).1
      have t2 : t 15 = .agg #[.int .i64 z.b, .int .i64 z.d, .int .i64 z.s, .int .i64 z.i] := hs.val 5 rfl (ha { on := 5, ground := .data } (by simp) rfl)
      have T1 := Lib.hid t1
      have T2 := Lib.hid t2
      have hc : wr.heap[g 8]? = some (.cells #[.int .i64 0, .int .i64 0, .int .i64 0, .int .i64 0] 27 (0, 0)) := by have h := (hs.box 8 rfl hea).2.2; rw [show e ((plan1 x y z).S 8) = false from hs0] at h; exact h
      have HS := Lib.hid (hs.store ok (i := 8) rfl hea only4 (set4 hc))
      obtain ⟨q0, q1, q2, q3, f0, f1, f2, f3, qz⟩ := cells4 hc
      refine wpOp_step (i := 11) rfl (fun K hK => ?_)
      have HK : Shut (∀ a w, _ → K a w) := hK
      clear hK ho
      clear hs ha hi hs0 hea hc
      go_simp
      exact HK.out _ _ ⟨upd e 11 true, upd (upd t 9 _) 15 _, g, rfl, rfl, by rw [upd_self T1.out, upd_self T2.out]; exact HS.out⟩
    | k + 12, ho, hi, ha => simp at ho
  case done =>
    rintro l a wr ⟨e, t, g, rfl, rfl, hs⟩ hr
    have hd := ready_done hr rfl (by decide +kernel)
    have e6 : e 6 = true := hd 6 (by decide)
    have e7 : e 7 = true := hd 7 (by decide)
    have e8 : e 8 = true := hd 8 (by decide)
    have e9 : e 9 = true := hd 9 (by decide)
    have e10 : e 10 = true := hd 10 (by decide)
    have e11 : e 11 = true := hd 11 (by decide)
    obtain ⟨p6, l6, b6⟩ := hs.box 6 rfl e6
    replace b6 : wr.heap[g 6]? = some (.cells #[.int .i64 x.b, .int .i64 x.d, .int .i64 x.s, .int .i64 x.i] 27 (0, 0)) := by rw [show e ((plan1 x y z).S 6) = true from e9] at b6; exact b6
    replace p6 : t 7 = .pointer (some ⟨g 6, 0, none⟩) := p6
    obtain ⟨p7, l7, b7⟩ := hs.box 7 rfl e7
    replace b7 : wr.heap[g 7]? = some (.cells #[.int .i64 y.b, .int .i64 y.d, .int .i64 y.s, .int .i64 y.i] 27 (0, 0)) := by rw [show e ((plan1 x y z).S 7) = true from e10] at b7; exact b7
    replace p7 : t 8 = .pointer (some ⟨g 7, 0, none⟩) := p7
    obtain ⟨p8, l8, b8⟩ := hs.box 8 rfl e8
    replace b8 : wr.heap[g 8]? = some (.cells #[.int .i64 z.b, .int .i64 z.d, .int .i64 z.s, .int .i64 z.i] 27 (0, 0)) := by rw [show e ((plan1 x y z).S 8) = true from e11] at b8; exact b8
    replace p8 : t 9 = .pointer (some ⟨g 8, 0, none⟩) := p8
    have F0 : Three w (g 6) (g 7) (g 8) x y z wr := ⟨ebox_of (x := x) b6, ebox_of (x := y) b7, ebox_of (x := z) b8, HT.out.below (M.out.trans (hs.be.mono M.out.size)), M.out.trans (hs.be.mono M.out.size)⟩
    have F := Lib.hid F0
    clear F0
    rw [p6, p7, p8]
    generalize g 6 = ga at *
    generalize g 7 = gb at *
    generalize g 8 = gc at *
    generalize t 10 = u10
    generalize t 11 = u11
    generalize t 12 = u12
    generalize t 13 = u13
    generalize t 14 = u14
    generalize t 15 = u15
    clear b6 b7 b8 p6 p7 p8 l6 l7 l8 e6 e7 e8 e9 e10 e11 hs hd hr OX OY OZ ok X Y Z M HT
    clear t e g
    obtain ⟨w2, hw2⟩ : ∃ q, q = wr := ⟨wr, rfl⟩
    subst hw2
    rcases KEY.out with ⟨hne, h1, h2, ⟨h3, h4⟩ | h3⟩ | ⟨hne, h1, h2⟩ | ⟨hne, h1, h2⟩
    · rw [h1] at L1
      rw [h2] at L2
      rw [h3] at L3
      rw [h4] at L4
      clear h1 h2 h3 h4 KEY
      obtain ⟨⟨a0, a1, a2, a3, az⟩, ⟨b0, b1, b2, b3, bz⟩, ⟨c0, c1, c2, c3, cz⟩, _, _⟩ := F.out
      go_wp2_with fail
      with_reducible refine (L1 _).mono ?_
      rintro e wn ⟨rfl, m⟩
      have F := Lib.hid (F.out.next m.below)
      clear m a0 a1 a2 a3 az b0 b1 b2 b3 bz c0 c1 c2 c3 cz
      obtain ⟨⟨a0, a1, a2, a3, az⟩, ⟨b0, b1, b2, b3, bz⟩, ⟨c0, c1, c2, c3, cz⟩, _, _⟩ := F.out
      go_wp2_with fail
      with_reducible refine (L3 _).mono ?_
      rintro e wn ⟨rfl, m⟩
      have F := Lib.hid (F.out.next m.below)
      clear m a0 a1 a2 a3 az b0 b1 b2 b3 bz c0 c1 c2 c3 cz
      obtain ⟨⟨a0, a1, a2, a3, az⟩, ⟨b0, b1, b2, b3, bz⟩, ⟨c0, c1, c2, c3, cz⟩, _, _⟩ := F.out
      go_wp2_with fail
      with_reducible refine (L4 _).mono ?_
      rintro e wn ⟨rfl, m⟩
      have F := Lib.hid (F.out.next m.below)
      clear m a0 a1 a2 a3 az b0 b1 b2 b3 bz c0 c1 c2 c3 cz
      obtain ⟨⟨a0, a1, a2, a3, az⟩, ⟨b0, b1, b2, b3, bz⟩, ⟨c0, c1, c2, c3, cz⟩, _, _⟩ := F.out
      go_wp2
      clear a0 a1 a2 a3 az b0 b1 b2 b3 bz c0 c1 c2 c3 cz
      have FA := Lib.hid F.out.A
      have FB := Lib.hid F.out.B
      have ok : (planL x y ga gb k1 k2).ok = true := rfl
      refine region_inv (Inv := fun l a wr => ∃ (e : Nat → Bool) (t : Nat → Value) (g : Nat → Nat), l = #[e 0, e 1, e 2, e 3, e 4, e 5, e 6, e 7, e 8, e 9, e 10, e 11, e 12, e 13, e 14, e 15, e 16, e 17, e 18, e 19, e 20, e 21, e 22, e 23, e 24, e 25, e 26, e 27, e 28, e 29, e 30, e 31, e 32, e 33, e 34, e 35, e 36, e 37, e 38, e 39, e 40, e 41, e 42] ∧ a = ⟨#[.agg #[.int .i64 x.b, .int .i64 x.d, .int .i64 x.s, .int .i64 x.i], .agg #[.int .i64 y.b, .int .i64 y.d, .int .i64 y.s, .int .i64 y.i], .agg #[.int .i64 z.b, .int .i64 z.d, .int .i64 z.s, .int .i64 z.i], .pointer (some ⟨w.heap.size, 0, none⟩), .pointer (some ⟨w.heap.size + 1, 0, none⟩), .pointer (some ⟨w.heap.size + 1 + 1, 0, none⟩), t 6, .pointer (some ⟨ga, 0, none⟩), .pointer (some ⟨gb, 0, none⟩), .pointer (some ⟨gc, 0, none⟩), u10, u11, u12, u13, u14, u15, .agg #[.int .i64 x.b, .int .i64 x.d, .int .i64 x.s, .int .i64 x.i], .agg #[.int .i64 y.b, .int .i64 y.d, .int .i64 y.s, .int .i64 y.i], .bool true, .bool true, .agg #[.int .i64 y.b, .int .i64 y.d, .int .i64 y.s, .int .i64 y.i], .agg #[.int .i64 z.b, .int .i64 z.d, .int .i64 z.s, .int .i64 z.i], .bool true, .bool true, .bool true, .agg #[.int .i64 x.b, .int .i64 x.d, .int .i64 x.s, .int .i64 x.i], .agg #[.int .i64 z.b, .int .i64 z.d, .int .i64 z.s, .int .i64 z.i], .bool true, .bool false, .bool false, t 30, t 31, t 32, t 33, t 34, t 35, t 36, t 37, t 38, t 39, t 40, t 41, t 42, t 43, t 44, t 45, t 46, t 47, t 48, t 49, t 50, t 51, t 52, t 53, t 54, t 55, t 56, t 57, t 58, t 59, t 60, t 61, t 62, t 63, t 64, t 65, t 66, t 67, t 68, t 69, t 70, t 71], []⟩ ∧ Stage (planL x y ga gb k1 k2) wn e t g wr) (by kernel_rfl) ?step ?start ?done
      case start => exact ⟨fun _ => false, fun i => if i = 6 then .bool false else undef, fun _ => 0, rfl, rfl, Stage.start _ _ _ _⟩
      case step =>
        rintro l a wr ⟨e, t, g, rfl, rfl, hs⟩ i o ho hi ha
        match i, ho, hi, ha with
        | 0, ho, hi, ha =>
          obtain rfl : _ = o := Option.some.inj ho
          refine wpOp_step (i := 0) rfl (fun K hK => ?_)
          have HK : Shut (∀ a w, _ → K a w) := hK
          clear hK ho
          have HS := Lib.hid hs
          clear hs ha hi
          go_simp
          (with_reducible refine (wakes_any _ (F.out.T.below HS.out.be)).mono ?_)
          rintro e' w' ⟨rfl, m⟩
          go_wp2_with fail
          exact HK.out _ _ ⟨upd e 0 true, upd t 30 _, g, rfl, rfl, by exact (HS.out.grow m.below).vals ok (i := 0) rfl⟩
        | 1, ho, hi, ha =>
          obtain rfl : _ = o := Option.some.inj ho
          have T0 : t 30 = .bool true := hs.val 0 rfl (ha { on := 0, ground := .data } (by simp) rfl)
          have H0 := Lib.hid T0
          refine wpOp_step (i := 1) rfl (fun K hK => ?_)
          have HK : Shut (∀ a w, _ → K a w) := hK
          clear hK ho
          have HS := Lib.hid hs
          clear hs ha hi
          go_simp
          exact HK.out _ _ ⟨upd e 1 true, upd (upd t 30 _) 31 _, g, rfl, rfl, by rw [upd_self H0.out]; exact HS.out.vals ok (i := 1) rfl⟩
        | 2, ho, hi, ha =>
          obtain rfl : _ = o := Option.some.inj ho
          have T1 : t 31 = .bool true := hs.val 1 rfl (ha { on := 1, ground := .guard } (by simp) rfl)
          have H1 := Lib.hid T1
          refine wpOp_step (i := 2) rfl (fun K hK => ?_)
          have HK : Shut (∀ a w, _ → K a w) := hK
          clear hK ho
          obtain ⟨c0, c1, c2, c3, cz⟩ := FA.out.next hs.be
          have HS := Lib.hid hs
          clear hs ha hi
          go_simp
          exact HK.out _ _ ⟨upd e 2 true, upd (upd t 31 _) 32 _, g, rfl, rfl, by rw [upd_self H1.out]; exact HS.out.vals ok (i := 2) rfl⟩
        | 3, ho, hi, ha =>
          obtain rfl : _ = o := Option.some.inj ho
          have T1 : t 31 = .bool true := hs.val 1 rfl (ha { on := 1, ground := .guard } (by simp) rfl)
          have H1 := Lib.hid T1
          refine wpOp_step (i := 3) rfl (fun K hK => ?_)
          have HK : Shut (∀ a w, _ → K a w) := hK
          clear hK ho
          obtain ⟨c0, c1, c2, c3, cz⟩ := FB.out.next hs.be
          have HS := Lib.hid hs
          clear hs ha hi
          go_simp
          exact HK.out _ _ ⟨upd e 3 true, upd (upd t 31 _) 33 _, g, rfl, rfl, by rw [upd_self H1.out]; exact HS.out.vals ok (i := 3) rfl⟩
        | 4, ho, hi, ha =>
          obtain rfl : _ = o := Option.some.inj ho
          have T1 : t 31 = .bool true := hs.val 1 rfl (ha { on := 1, ground := .guard } (by simp) rfl)
          have H1 := Lib.hid T1
          have T2 : t 32 = .agg #[.int .i64 x.b, .int .i64 x.d, .int .i64 x.s, .int .i64 x.i] := hs.val 2 rfl (ha { on := 2, ground := .data } (by simp) rfl)
          have H2 := Lib.hid T2
          have T3 : t 33 = .agg #[.int .i64 y.b, .int .i64 y.d, .int .i64 y.s, .int .i64 y.i] := hs.val 3 rfl (ha { on := 3, ground := .data } (by simp) rfl)
          have H3 := Lib.hid T3
          refine wpOp_step (i := 4) rfl (fun K hK => ?_)
          have HK : Shut (∀ a w, _ → K a w) := hK
          clear hK ho
          have HS := Lib.hid hs
          clear hs ha hi
          go_simp
          rw [ifs_no hne.out]
          go_simp
          exact HK.out _ _ ⟨upd e 4 true, upd (upd (upd (upd t 31 _) 32 _) 33 _) 34 _, g, rfl, rfl, by rw [upd_self H1.out, upd_self H2.out, upd_self H3.out]; exact HS.out.vals ok (i := 4) rfl⟩
        | 5, ho, hi, ha =>
          obtain rfl : _ = o := Option.some.inj ho
          have T1 : t 31 = .bool true := hs.val 1 rfl (ha { on := 1, ground := .guard } (by simp) rfl)
          have H1 := Lib.hid T1
          refine wpOp_step (i := 5) rfl (fun K hK => ?_)
          have HK : Shut (∀ a w, _ → K a w) := hK
          clear hK ho
          obtain ⟨c0, c1, c2, c3, cz⟩ := FA.out.next hs.be
          have HS := Lib.hid hs
          clear hs ha hi
          go_simp
          exact HK.out _ _ ⟨upd e 5 true, upd (upd t 31 _) 35 _, g, rfl, rfl, by rw [upd_self H1.out]; exact HS.out.vals ok (i := 5) rfl⟩
        | 6, ho, hi, ha =>
          obtain rfl : _ = o := Option.some.inj ho
          have T1 : t 31 = .bool true := hs.val 1 rfl (ha { on := 1, ground := .guard } (by simp) rfl)
          have H1 := Lib.hid T1
          refine wpOp_step (i := 6) rfl (fun K hK => ?_)
          have HK : Shut (∀ a w, _ → K a w) := hK
          clear hK ho
          obtain ⟨c0, c1, c2, c3, cz⟩ := FB.out.next hs.be
          have HS := Lib.hid hs
          clear hs ha hi
          go_simp
          exact HK.out _ _ ⟨upd e 6 true, upd (upd t 31 _) 36 _, g, rfl, rfl, by rw [upd_self H1.out]; exact HS.out.vals ok (i := 6) rfl⟩
        | 7, ho, hi, ha =>
          obtain rfl : _ = o := Option.some.inj ho
          have T1 : t 31 = .bool true := hs.val 1 rfl (ha { on := 1, ground := .guard } (by simp) rfl)
          have H1 := Lib.hid T1
          have T5 : t 35 = .agg #[.int .i64 x.b, .int .i64 x.d, .int .i64 x.s, .int .i64 x.i] := hs.val 5 rfl (ha { on := 5, ground := .data } (by simp) rfl)
          have H5 := Lib.hid T5
          have T6 : t 36 = .agg #[.int .i64 y.b, .int .i64 y.d, .int .i64 y.s, .int .i64 y.i] := hs.val 6 rfl (ha { on := 6, ground := .data } (by simp) rfl)
          have H6 := Lib.hid T6
          refine wpOp_step (i := 7) rfl (fun K hK => ?_)
          have HK : Shut (∀ a w, _ → K a w) := hK
          clear hK ho
          have HS := Lib.hid hs
          clear hs ha hi
          go_simp
          (with_reducible refine (L1 _).mono ?_)
          rintro e' w' ⟨rfl, m⟩
          go_wp2_with fail
          exact HK.out _ _ ⟨upd e 7 true, upd (upd (upd (upd t 31 _) 35 _) 36 _) 37 _, g, rfl, rfl, by rw [upd_self H1.out, upd_self H5.out, upd_self H6.out]; exact (HS.out.grow m.below).vals ok (i := 7) rfl⟩
        | 8, ho, hi, ha =>
          obtain rfl : _ = o := Option.some.inj ho
          have T1 : t 31 = .bool true := hs.val 1 rfl (ha { on := 1, ground := .guard } (by simp) rfl)
          have H1 := Lib.hid T1
          have T7 : t 37 = .bool true := hs.val 7 rfl (ha { on := 7, ground := .data } (by simp) rfl)
          have H7 := Lib.hid T7
          refine wpOp_step (i := 8) rfl (fun K hK => ?_)
          have HK : Shut (∀ a w, _ → K a w) := hK
          clear hK ho
          have HS := Lib.hid hs
          clear hs ha hi
          go_simp
          exact HK.out _ _ ⟨upd e 8 true, upd (upd (upd t 31 _) 37 _) 38 _, g, rfl, rfl, by rw [upd_self H1.out, upd_self H7.out]; exact HS.out.vals ok (i := 8) rfl⟩
        | 9, ho, hi, ha =>
          obtain rfl : _ = o := Option.some.inj ho
          have T1 : t 31 = .bool true := hs.val 1 rfl (ha { on := 1, ground := .guard } (by simp) rfl)
          have H1 := Lib.hid T1
          have T8 : t 38 = .bool false := hs.val 8 rfl (ha { on := 8, ground := .data } (by simp) rfl)
          have H8 := Lib.hid T8
          refine wpOp_step (i := 9) rfl (fun K hK => ?_)
          have HK : Shut (∀ a w, _ → K a w) := hK
          clear hK ho
          have HS := Lib.hid hs
          clear hs ha hi
          go_simp
          exact HK.out _ _ ⟨upd e 9 true, upd (upd (upd t 31 _) 38 _) 39 _, g, rfl, rfl, by rw [upd_self H1.out, upd_self H8.out]; exact HS.out.vals ok (i := 9) rfl⟩
        | 10, ho, hi, ha =>
          obtain rfl : _ = o := Option.some.inj ho
          have T9 : t 39 = .bool false := hs.val 9 rfl (ha { on := 9, ground := .guard } (by simp) rfl)
          have H9 := Lib.hid T9
          refine wpOp_step (i := 10) rfl (fun K hK => ?_)
          have HK : Shut (∀ a w, _ → K a w) := hK
          clear hK ho
          have HS := Lib.hid hs
          clear hs ha hi
          go_simp
          exact HK.out _ _ ⟨upd e 10 true, upd (upd t 39 _) 40 _, g, rfl, rfl, by rw [upd_self H9.out]; exact HS.out.vals ok (i := 10) rfl⟩
        | 11, ho, hi, ha =>
          obtain rfl : _ = o := Option.some.inj ho
          have T9 : t 39 = .bool false := hs.val 9 rfl (ha { on := 9, ground := .guard } (by simp) rfl)
          have H9 := Lib.hid T9
          refine wpOp_step (i := 11) rfl (fun K hK => ?_)
          have HK : Shut (∀ a w, _ → K a w) := hK
          clear hK ho
          have HS := Lib.hid hs
          clear hs ha hi
          go_simp
          exact HK.out _ _ ⟨upd e 11 true, upd (upd t 39 _) 41 _, g, rfl, rfl, by rw [upd_self H9.out]; exact HS.out.vals ok (i := 11) rfl⟩
        | 12, ho, hi, ha =>
          obtain rfl : _ = o := Option.some.inj ho
          have T9 : t 39 = .bool false := hs.val 9 rfl (ha { on := 9, ground := .guard } (by simp) rfl)
          have H9 := Lib.hid T9
          refine wpOp_step (i := 12) rfl (fun K hK => ?_)
          have HK : Shut (∀ a w, _ → K a w) := hK
          clear hK ho
          have HS := Lib.hid hs
          clear hs ha hi
          go_simp
          exact HK.out _ _ ⟨upd e 12 true, upd (upd t 39 _) 42 _, g, rfl, rfl, by rw [upd_self H9.out]; exact HS.out.vals ok (i := 12) rfl⟩
        | 13, ho, hi, ha =>
          obtain rfl : _ = o := Option.some.inj ho
          have T9 : t 39 = .bool false := hs.val 9 rfl (ha { on := 9, ground := .guard } (by simp) rfl)
          have H9 := Lib.hid T9
          refine wpOp_step (i := 13) rfl (fun K hK => ?_)
          have HK : Shut (∀ a w, _ → K a w) := hK
          clear hK ho
          have HS := Lib.hid hs
          clear hs ha hi
          go_simp
          exact HK.out _ _ ⟨upd e 13 true, upd (upd t 39 _) 43 _, g, rfl, rfl, by rw [upd_self H9.out]; exact HS.out.vals ok (i := 13) rfl⟩
        | 14, ho, hi, ha =>
          obtain rfl : _ = o := Option.some.inj ho
          have T1 : t 31 = .bool true := hs.val 1 rfl (ha { on := 1, ground := .guard } (by simp) rfl)
          have H1 := Lib.hid T1
          have T9 : t 39 = .bool false := hs.val 9 rfl (ha { on := 9, ground := .data } (by simp) rfl)
          have H9 := Lib.hid T9
          refine wpOp_step (i := 14) rfl (fun K hK => ?_)
          have HK : Shut (∀ a w, _ → K a w) := hK
          clear hK ho
          have HS := Lib.hid hs
          clear hs ha hi
          go_simp
          exact HK.out _ _ ⟨upd e 14 true, upd (upd (upd t 31 _) 39 _) 44 _, g, rfl, rfl, by rw [upd_self H1.out, upd_self H9.out]; exact HS.out.vals ok (i := 14) rfl⟩
        | 15, ho, hi, ha =>
          obtain rfl : _ = o := Option.some.inj ho
          have T1 : t 31 = .bool true := hs.val 1 rfl (ha { on := 1, ground := .guard } (by simp) rfl)
          have H1 := Lib.hid T1
          have T4 : t 34 = .bool false := hs.val 4 rfl (ha { on := 4, ground := .data } (by simp) rfl)
          have H4 := Lib.hid T4
          have T14 : t 44 = .bool false := hs.val 14 rfl (ha { on := 14, ground := .data } (by simp) rfl)
          have H14 := Lib.hid T14
          refine wpOp_step (i := 15) rfl (fun K hK => ?_)
          have HK : Shut (∀ a w, _ → K a w) := hK
          clear hK ho
          have HS := Lib.hid hs
          clear hs ha hi
          go_simp
          exact HK.out _ _ ⟨upd e 15 true, upd (upd (upd (upd t 31 _) 34 _) 44 _) 45 _, g, rfl, rfl, by rw [upd_self H1.out, upd_self H4.out, upd_self H14.out]; exact HS.out.vals ok (i := 15) rfl⟩
        | 16, ho, hi, ha =>
          obtain rfl : _ = o := Option.some.inj ho
          have T1 : t 31 = .bool true := hs.val 1 rfl (ha { on := 1, ground := .data } (by simp) rfl)
          have H1 := Lib.hid T1
          have T15 : t 45 = .bool true := hs.val 15 rfl (ha { on := 15, ground := .data } (by simp) rfl)
          have H15 := Lib.hid T15
          refine wpOp_step (i := 16) rfl (fun K hK => ?_)
          have HK : Shut (∀ a w, _ → K a w) := hK
          clear hK ho
          have HS := Lib.hid hs
          clear hs ha hi
          go_simp
          exact HK.out _ _ ⟨upd e 16 true, upd (upd (upd t 31 _) 45 _) 46 _, g, rfl, rfl, by rw [upd_self H1.out, upd_self H15.out]; exact HS.out.vals ok (i := 16) rfl⟩
        | 17, ho, hi, ha =>
          obtain rfl : _ = o := Option.some.inj ho
          have T16 : t 46 = .bool true := hs.val 16 rfl (ha { on := 16, ground := .data } (by simp) rfl)
          have H16 := Lib.hid T16
          refine wpOp_step (i := 17) rfl (fun K hK => ?_)
          have HK : Shut (∀ a w, _ → K a w) := hK
          clear hK ho
          have HS := Lib.hid hs
          clear hs ha hi
          go_simp
          exact HK.out _ _ ⟨upd e 17 true, upd (upd t 46 _) 47 _, g, rfl, rfl, by rw [upd_self H16.out]; exact HS.out.vals ok (i := 17) rfl⟩
        | 18, ho, hi, ha =>
          obtain rfl : _ = o := Option.some.inj ho
          have T17 : t 47 = .bool true := hs.val 17 rfl (ha { on := 17, ground := .guard } (by simp) rfl)
          have H17 := Lib.hid T17
          refine wpOp_step (i := 18) rfl (fun K hK => ?_)
          have HK : Shut (∀ a w, _ → K a w) := hK
          clear hK ho
          obtain ⟨c0, c1, c2, c3, cz⟩ := FA.out.next hs.be
          have HS := Lib.hid hs
          clear hs ha hi
          go_simp
          exact HK.out _ _ ⟨upd e 18 true, upd (upd t 47 _) 48 _, g, rfl, rfl, by rw [upd_self H17.out]; exact HS.out.vals ok (i := 18) rfl⟩
        | 19, ho, hi, ha =>
          obtain rfl : _ = o := Option.some.inj ho
          have T17 : t 47 = .bool true := hs.val 17 rfl (ha { on := 17, ground := .guard } (by simp) rfl)
          have H17 := Lib.hid T17
          refine wpOp_step (i := 19) rfl (fun K hK => ?_)
          have HK : Shut (∀ a w, _ → K a w) := hK
          clear hK ho
          obtain ⟨c0, c1, c2, c3, cz⟩ := FB.out.next hs.be
          have HS := Lib.hid hs
          clear hs ha hi
          go_simp
          exact HK.out _ _ ⟨upd e 19 true, upd (upd t 47 _) 49 _, g, rfl, rfl, by rw [upd_self H17.out]; exact HS.out.vals ok (i := 19) rfl⟩
        | 20, ho, hi, ha =>
          obtain rfl : _ = o := Option.some.inj ho
          have T17 : t 47 = .bool true := hs.val 17 rfl (ha { on := 17, ground := .guard } (by simp) rfl)
          have H17 := Lib.hid T17
          have T18 : t 48 = .agg #[.int .i64 x.b, .int .i64 x.d, .int .i64 x.s, .int .i64 x.i] := hs.val 18 rfl (ha { on := 18, ground := .data } (by simp) rfl)
          have H18 := Lib.hid T18
          have T19 : t 49 = .agg #[.int .i64 y.b, .int .i64 y.d, .int .i64 y.s, .int .i64 y.i] := hs.val 19 rfl (ha { on := 19, ground := .data } (by simp) rfl)
          have H19 := Lib.hid T19
          refine wpOp_step (i := 20) rfl (fun K hK => ?_)
          have HK : Shut (∀ a w, _ → K a w) := hK
          clear hK ho
          have HS := Lib.hid hs
          clear hs ha hi
          go_simp
          (with_reducible refine (L1 _).mono ?_)
          rintro e' w' ⟨rfl, m⟩
          go_wp2_with fail
          exact HK.out _ _ ⟨upd e 20 true, upd (upd (upd (upd t 47 _) 48 _) 49 _) 50 _, g, rfl, rfl, by rw [upd_self H17.out, upd_self H18.out, upd_self H19.out]; exact (HS.out.grow m.below).vals ok (i := 20) rfl⟩
        | 21, ho, hi, ha =>
          obtain rfl : _ = o := Option.some.inj ho
          have T17 : t 47 = .bool true := hs.val 17 rfl (ha { on := 17, ground := .guard } (by simp) rfl)
          have H17 := Lib.hid T17
          have T20 : t 50 = .bool true := hs.val 20 rfl (ha { on := 20, ground := .data } (by simp) rfl)
          have H20 := Lib.hid T20
          refine wpOp_step (i := 21) rfl (fun K hK => ?_)
          have HK : Shut (∀ a w, _ → K a w) := hK
          clear hK ho
          have HS := Lib.hid hs
          clear hs ha hi
          go_simp
          exact HK.out _ _ ⟨upd e 21 true, upd (upd (upd t 47 _) 50 _) 51 _, g, rfl, rfl, by rw [upd_self H17.out, upd_self H20.out]; exact HS.out.vals ok (i := 21) rfl⟩
        | 22, ho, hi, ha =>
          obtain rfl : _ = o := Option.some.inj ho
          have T21 : t 51 = .bool true := hs.val 21 rfl (ha { on := 21, ground := .guard } (by simp) rfl)
          have H21 := Lib.hid T21
          refine wpOp_step (i := 22) rfl (fun K hK => ?_)
          have HK : Shut (∀ a w, _ → K a w) := hK
          clear hK ho
          obtain ⟨c0, c1, c2, c3, cz⟩ := FB.out.next hs.be
          have HS := Lib.hid hs
          clear hs ha hi
          go_simp
          exact HK.out _ _ ⟨upd e 22 true, upd (upd t 51 _) 52 _, g, rfl, rfl, by rw [upd_self H21.out]; exact HS.out.vals ok (i := 22) rfl⟩
        | 23, ho, hi, ha =>
          obtain rfl : _ = o := Option.some.inj ho
          have T21 : t 51 = .bool true := hs.val 21 rfl (ha { on := 21, ground := .guard } (by simp) rfl)
          have H21 := Lib.hid T21
          refine wpOp_step (i := 23) rfl (fun K hK => ?_)
          have HK : Shut (∀ a w, _ → K a w) := hK
          clear hK ho
          obtain ⟨c0, c1, c2, c3, cz⟩ := FA.out.next hs.be
          have HS := Lib.hid hs
          clear hs ha hi
          go_simp
          exact HK.out _ _ ⟨upd e 23 true, upd (upd t 51 _) 53 _, g, rfl, rfl, by rw [upd_self H21.out]; exact HS.out.vals ok (i := 23) rfl⟩
        | 24, ho, hi, ha =>
          obtain rfl : _ = o := Option.some.inj ho
          have T21 : t 51 = .bool true := hs.val 21 rfl (ha { on := 21, ground := .guard } (by simp) rfl)
          have H21 := Lib.hid T21
          have T22 : t 52 = .agg #[.int .i64 y.b, .int .i64 y.d, .int .i64 y.s, .int .i64 y.i] := hs.val 22 rfl (ha { on := 22, ground := .data } (by simp) rfl)
          have H22 := Lib.hid T22
          have T23 : t 53 = .agg #[.int .i64 x.b, .int .i64 x.d, .int .i64 x.s, .int .i64 x.i] := hs.val 23 rfl (ha { on := 23, ground := .data } (by simp) rfl)
          have H23 := Lib.hid T23
          refine wpOp_step (i := 24) rfl (fun K hK => ?_)
          have HK : Shut (∀ a w, _ → K a w) := hK
          clear hK ho
          have HS := Lib.hid hs
          clear hs ha hi
          go_simp
          (with_reducible refine (L2 _).mono ?_)
          rintro e' w' ⟨rfl, m⟩
          go_wp2_with fail
          exact HK.out _ _ ⟨upd e 24 true, upd (upd (upd (upd t 51 _) 52 _) 53 _) 54 _, g, rfl, rfl, by rw [upd_self H21.out, upd_self H22.out, upd_self H23.out]; exact (HS.out.grow m.below).vals ok (i := 24) rfl⟩
        | 25, ho, hi, ha =>
          obtain rfl : _ = o := Option.some.inj ho
          have T17 : t 47 = .bool true := hs.val 17 rfl (ha { on := 17, ground := .guard } (by simp) rfl)
          have H17 := Lib.hid T17
          have T21 : t 51 = .bool true := hs.val 21 rfl (ha { on := 21, ground := .data } (by simp) rfl)
          have H21 := Lib.hid T21
          have T24 : t 54 = .bool false := hs.val 24 rfl (ha { on := 24, ground := .data } (by simp) rfl)
          have H24 := Lib.hid T24
          refine wpOp_step (i := 25) rfl (fun K hK => ?_)
          have HK : Shut (∀ a w, _ → K a w) := hK
          clear hK ho
          have HS := Lib.hid hs
          clear hs ha hi
          go_simp
          exact HK.out _ _ ⟨upd e 25 true, upd (upd (upd (upd t 47 _) 51 _) 54 _) 55 _, g, rfl, rfl, by rw [upd_self H17.out, upd_self H21.out, upd_self H24.out]; exact HS.out.vals ok (i := 25) rfl⟩
        | 26, ho, hi, ha =>
          obtain rfl : _ = o := Option.some.inj ho
          have T17 : t 47 = .bool true := hs.val 17 rfl (ha { on := 17, ground := .guard } (by simp) rfl)
          have H17 := Lib.hid T17
          have T25 : t 55 = .bool false := hs.val 25 rfl (ha { on := 25, ground := .data } (by simp) rfl)
          have H25 := Lib.hid T25
          refine wpOp_step (i := 26) rfl (fun K hK => ?_)
          have HK : Shut (∀ a w, _ → K a w) := hK
          clear hK ho
          have HS := Lib.hid hs
          clear hs ha hi
          go_simp
          exact HK.out _ _ ⟨upd e 26 true, upd (upd (upd t 47 _) 55 _) 56 _, g, rfl, rfl, by rw [upd_self H17.out, upd_self H25.out]; exact HS.out.vals ok (i := 26) rfl⟩
        | 27, ho, hi, ha =>
          obtain rfl : _ = o := Option.some.inj ho
          have T17 : t 47 = .bool true := hs.val 17 rfl (ha { on := 17, ground := .data } (by simp) rfl)
          have H17 := Lib.hid T17
          have T26 : t 56 = .bool true := hs.val 26 rfl (ha { on := 26, ground := .data } (by simp) rfl)
          have H26 := Lib.hid T26
          refine wpOp_step (i := 27) rfl (fun K hK => ?_)
          have HK : Shut (∀ a w, _ → K a w) := hK
          clear hK ho
          have HS := Lib.hid hs
          clear hs ha hi
          go_simp
          exact HK.out _ _ ⟨upd e 27 true, upd (upd (upd t 47 _) 56 _) 57 _, g, rfl, rfl, by rw [upd_self H17.out, upd_self H26.out]; exact HS.out.vals ok (i := 27) rfl⟩
        | 28, ho, hi, ha =>
          obtain rfl : _ = o := Option.some.inj ho
          have T27 : t 57 = .bool true := hs.val 27 rfl (ha { on := 27, ground := .data } (by simp) rfl)
          have H27 := Lib.hid T27
          refine wpOp_step (i := 28) rfl (fun K hK => ?_)
          have HK : Shut (∀ a w, _ → K a w) := hK
          clear hK ho
          have HS := Lib.hid hs
          clear hs ha hi
          go_simp
          exact HK.out _ _ ⟨upd e 28 true, upd (upd t 57 _) 58 _, g, rfl, rfl, by rw [upd_self H27.out]; exact HS.out.vals ok (i := 28) rfl⟩
        | 29, ho, hi, ha =>
          obtain rfl : _ = o := Option.some.inj ho
          have T28 : t 58 = .bool true := hs.val 28 rfl (ha { on := 28, ground := .guard } (by simp) rfl)
          have H28 := Lib.hid T28
          refine wpOp_step (i := 29) rfl (fun K hK => ?_)
          have HK : Shut (∀ a w, _ → K a w) := hK
          clear hK ho
          have HS := Lib.hid hs
          clear hs ha hi
          go_simp
          exact HK.out _ _ ⟨upd e 29 true, upd (upd t 58 _) 59 _, g, rfl, rfl, by rw [upd_self H28.out]; exact HS.out.vals ok (i := 29) rfl⟩
        | 30, ho, hi, ha =>
          obtain rfl : _ = o := Option.some.inj ho
          have T28 : t 58 = .bool true := hs.val 28 rfl (ha { on := 28, ground := .guard } (by simp) rfl)
          have H28 := Lib.hid T28
          have T29 : t 59 = .pointer (some ⟨ga, 0, none⟩) := hs.val 29 rfl (ha { on := 29, ground := .data } (by simp) rfl)
          have H29 := Lib.hid T29
          refine wpOp_step (i := 30) rfl (fun K hK => ?_)
          have HK : Shut (∀ a w, _ → K a w) := hK
          clear hK ho
          obtain ⟨c0, c1, c2, c3, cz⟩ := FA.out.next hs.be
          have HS := Lib.hid hs
          clear hs ha hi
          go_simp
          exact HK.out _ _ ⟨upd e 30 true, upd (upd (upd t 58 _) 59 _) 60 _, g, rfl, rfl, by rw [upd_self H28.out, upd_self H29.out]; exact HS.out.vals ok (i := 30) rfl⟩
        | 31, ho, hi, ha =>
          obtain rfl : _ = o := Option.some.inj ho
          have T28 : t 58 = .bool true := hs.val 28 rfl (ha { on := 28, ground := .guard } (by simp) rfl)
          have H28 := Lib.hid T28
          refine wpOp_step (i := 31) rfl (fun K hK => ?_)
          have HK : Shut (∀ a w, _ → K a w) := hK
          clear hK ho
          have HS := Lib.hid hs
          clear hs ha hi
          go_simp
          exact HK.out _ _ ⟨upd e 31 true, upd (upd t 58 _) 61 _, g, rfl, rfl, by rw [upd_self H28.out]; exact HS.out.vals ok (i := 31) rfl⟩
        | 32, ho, hi, ha =>
          obtain rfl : _ = o := Option.some.inj ho
          have T28 : t 58 = .bool true := hs.val 28 rfl (ha { on := 28, ground := .guard } (by simp) rfl)
          have H28 := Lib.hid T28
          have T31 : t 61 = .pointer (some ⟨gb, 0, none⟩) := hs.val 31 rfl (ha { on := 31, ground := .data } (by simp) rfl)
          have H31 := Lib.hid T31
          refine wpOp_step (i := 32) rfl (fun K hK => ?_)
          have HK : Shut (∀ a w, _ → K a w) := hK
          clear hK ho
          obtain ⟨c0, c1, c2, c3, cz⟩ := FB.out.next hs.be
          have HS := Lib.hid hs
          clear hs ha hi
          go_simp
          exact HK.out _ _ ⟨upd e 32 true, upd (upd (upd t 58 _) 61 _) 62 _, g, rfl, rfl, by rw [upd_self H28.out, upd_self H31.out]; exact HS.out.vals ok (i := 32) rfl⟩
        | 33, ho, hi, ha =>
          obtain rfl : _ = o := Option.some.inj ho
          have T28 : t 58 = .bool true := hs.val 28 rfl (ha { on := 28, ground := .guard } (by simp) rfl)
          have H28 := Lib.hid T28
          have T30 : t 60 = .agg #[.int .i64 x.b, .int .i64 x.d, .int .i64 x.s] := hs.val 30 rfl (ha { on := 30, ground := .data } (by simp) rfl)
          have H30 := Lib.hid T30
          have T32 : t 62 = .agg #[.int .i64 y.b, .int .i64 y.d, .int .i64 y.s] := hs.val 32 rfl (ha { on := 32, ground := .data } (by simp) rfl)
          have H32 := Lib.hid T32
          refine wpOp_step (i := 33) rfl (fun K hK => ?_)
          have HK : Shut (∀ a w, _ → K a w) := hK
          clear hK ho
          have HS := Lib.hid hs
          clear hs ha hi
          go_simp
          (with_reducible refine (C1 _).mono ?_)
          rintro e' w' ⟨rfl, m⟩
          go_wp2_with fail
          exact HK.out _ _ ⟨upd e 33 true, upd (upd (upd (upd t 58 _) 60 _) 62 _) 63 _, g, rfl, rfl, by rw [upd_self H28.out, upd_self H30.out, upd_self H32.out]; exact (HS.out.grow m.below).vals ok (i := 33) rfl⟩
        | 34, ho, hi, ha =>
          obtain rfl : _ = o := Option.some.inj ho
          have T28 : t 58 = .bool true := hs.val 28 rfl (ha { on := 28, ground := .guard } (by simp) rfl)
          have H28 := Lib.hid T28
          refine wpOp_step (i := 34) rfl (fun K hK => ?_)
          have HK : Shut (∀ a w, _ → K a w) := hK
          clear hK ho
          have HS := Lib.hid hs
          clear hs ha hi
          go_simp
          exact HK.out _ _ ⟨upd e 34 true, upd (upd t 58 _) 64 _, g, rfl, rfl, by rw [upd_self H28.out]; exact HS.out.vals ok (i := 34) rfl⟩
        | 35, ho, hi, ha =>
          obtain rfl : _ = o := Option.some.inj ho
          have T28 : t 58 = .bool true := hs.val 28 rfl (ha { on := 28, ground := .guard } (by simp) rfl)
          have H28 := Lib.hid T28
          have T34 : t 64 = .pointer (some ⟨gb, 0, none⟩) := hs.val 34 rfl (ha { on := 34, ground := .data } (by simp) rfl)
          have H34 := Lib.hid T34
          refine wpOp_step (i := 35) rfl (fun K hK => ?_)
          have HK : Shut (∀ a w, _ → K a w) := hK
          clear hK ho
          obtain ⟨c0, c1, c2, c3, cz⟩ := FB.out.next hs.be
          have HS := Lib.hid hs
          clear hs ha hi
          go_simp
          exact HK.out _ _ ⟨upd e 35 true, upd (upd (upd t 58 _) 64 _) 65 _, g, rfl, rfl, by rw [upd_self H28.out, upd_self H34.out]; exact HS.out.vals ok (i := 35) rfl⟩
        | 36, ho, hi, ha =>
          obtain rfl : _ = o := Option.some.inj ho
          have T28 : t 58 = .bool true := hs.val 28 rfl (ha { on := 28, ground := .guard } (by simp) rfl)
          have H28 := Lib.hid T28
          refine wpOp_step (i := 36) rfl (fun K hK => ?_)
          have HK : Shut (∀ a w, _ → K a w) := hK
          clear hK ho
          have HS := Lib.hid hs
          clear hs ha hi
          go_simp
          exact HK.out _ _ ⟨upd e 36 true, upd (upd t 58 _) 66 _, g, rfl, rfl, by rw [upd_self H28.out]; exact HS.out.vals ok (i := 36) rfl⟩
        | 37, ho, hi, ha =>
          obtain rfl : _ = o := Option.some.inj ho
          have T28 : t 58 = .bool true := hs.val 28 rfl (ha { on := 28, ground := .guard } (by simp) rfl)
          have H28 := Lib.hid T28
          have T36 : t 66 = .pointer (some ⟨ga, 0, none⟩) := hs.val 36 rfl (ha { on := 36, ground := .data } (by simp) rfl)
          have H36 := Lib.hid T36
          refine wpOp_step (i := 37) rfl (fun K hK => ?_)
          have HK : Shut (∀ a w, _ → K a w) := hK
          clear hK ho
          obtain ⟨c0, c1, c2, c3, cz⟩ := FA.out.next hs.be
          have HS := Lib.hid hs
          clear hs ha hi
          go_simp
          exact HK.out _ _ ⟨upd e 37 true, upd (upd (upd t 58 _) 66 _) 67 _, g, rfl, rfl, by rw [upd_self H28.out, upd_self H36.out]; exact HS.out.vals ok (i := 37) rfl⟩
        | 38, ho, hi, ha =>
          obtain rfl : _ = o := Option.some.inj ho
          have T28 : t 58 = .bool true := hs.val 28 rfl (ha { on := 28, ground := .guard } (by simp) rfl)
          have H28 := Lib.hid T28
          have T35 : t 65 = .agg #[.int .i64 y.b, .int .i64 y.d, .int .i64 y.s] := hs.val 35 rfl (ha { on := 35, ground := .data } (by simp) rfl)
          have H35 := Lib.hid T35
          have T37 : t 67 = .agg #[.int .i64 x.b, .int .i64 x.d, .int .i64 x.s] := hs.val 37 rfl (ha { on := 37, ground := .data } (by simp) rfl)
          have H37 := Lib.hid T37
          refine wpOp_step (i := 38) rfl (fun K hK => ?_)
          have HK : Shut (∀ a w, _ → K a w) := hK
          clear hK ho
          have HS := Lib.hid hs
          clear hs ha hi
          go_simp
          (with_reducible refine (C2 _).mono ?_)
          rintro e' w' ⟨rfl, m⟩
          go_wp2_with fail
          exact HK.out _ _ ⟨upd e 38 true, upd (upd (upd (upd t 58 _) 65 _) 67 _) 68 _, g, rfl, rfl, by rw [upd_self H28.out, upd_self H35.out, upd_self H37.out]; exact (HS.out.grow m.below).vals ok (i := 38) rfl⟩
        | 39, ho, hi, ha =>
          obtain rfl : _ = o := Option.some.inj ho
          have T28 : t 58 = .bool true := hs.val 28 rfl (ha { on := 28, ground := .guard } (by simp) rfl)
          have H28 := Lib.hid T28
          have T38 : t 68 = .int .i64 k2 := hs.val 38 rfl (ha { on := 38, ground := .data } (by simp) rfl)
          have H38 := Lib.hid T38
          have ng := neg.out
          refine wpOp_step (i := 39) rfl (fun K hK => ?_)
          have HK : Shut (∀ a w, _ → K a w) := hK
          clear hK ho
          have HS := Lib.hid hs
          clear hs ha hi
          go_simp
          exact HK.out _ _ ⟨upd e 39 true, upd (upd (upd t 58 _) 68 _) 69 _, g, rfl, rfl, by rw [upd_self H28.out, upd_self H38.out]; exact HS.out.vals ok (i := 39) rfl⟩
        | 40, ho, hi, ha =>
          obtain rfl : _ = o := Option.some.inj ho
          have T28 : t 58 = .bool true := hs.val 28 rfl (ha { on := 28, ground := .guard } (by simp) rfl)
          have H28 := Lib.hid T28
          have T33 : t 63 = .int .i64 k1 := hs.val 33 rfl (ha { on := 33, ground := .data } (by simp) rfl)
          have H33 := Lib.hid T33
          have T39 : t 69 = .int .i64 k1 := hs.val 39 rfl (ha { on := 39, ground := .data } (by simp) rfl)
          have H39 := Lib.hid T39
          refine wpOp_step (i := 40) rfl (fun K hK => ?_)
          have HK : Shut (∀ a w, _ → K a w) := hK
          clear hK ho
          have HS := Lib.hid hs
          clear hs ha hi
          go_simp
          exact HK.out _ _ ⟨upd e 40 true, upd (upd (upd (upd t 58 _) 63 _) 69 _) 70 _, g, rfl, rfl, by rw [upd_self H28.out, upd_self H33.out, upd_self H39.out]; exact HS.out.vals ok (i := 40) rfl⟩
        | 41, ho, hi, ha =>
          obtain rfl : _ = o := Option.some.inj ho
          have T28 : t 58 = .bool true := hs.val 28 rfl (ha { on := 28, ground := .data } (by simp) rfl)
          have H28 := Lib.hid T28
          have T40 : t 70 = .bool true := hs.val 40 rfl (ha { on := 40, ground := .data } (by simp) rfl)
          have H40 := Lib.hid T40
          refine wpOp_step (i := 41) rfl (fun K hK => ?_)
          have HK : Shut (∀ a w, _ → K a w) := hK
          clear hK ho
          have HS := Lib.hid hs
          clear hs ha hi
          go_simp
          exact HK.out _ _ ⟨upd e 41 true, upd (upd (upd t 58 _) 70 _) 71 _, g, rfl, rfl, by rw [upd_self H28.out, upd_self H40.out]; exact HS.out.vals ok (i := 41) rfl⟩
        | 42, ho, hi, ha =>
          obtain rfl : _ = o := Option.some.inj ho
          have T41 : t 71 = .bool true := hs.val 41 rfl (ha { on := 41, ground := .data } (by simp) rfl)
          have H41 := Lib.hid T41
          refine wpOp_step (i := 42) rfl (fun K hK => ?_)
          have HK : Shut (∀ a w, _ → K a w) := hK
          clear hK ho
          have HS := Lib.hid hs
          clear hs ha hi
          go_simp
          exact HK.out _ _ ⟨upd e 42 true, upd (upd t 71 _) 6 _, g, rfl, rfl, by rw [upd_self H41.out]; exact HS.out.vals ok (i := 42) rfl⟩
        | k + 43, ho, hi, ha => simp at ho
      case done =>
        rintro l a wr ⟨e, t, g, rfl, rfl, hs⟩ hr
        have hd := ready_done hr rfl (by decide +kernel)
        have e42 : e 42 = true := hd 42 (by decide)
        have v6 : t 6 = .bool true := hs.val 42 rfl e42
        have BE := F.out.be.trans (hs.be.mono F.out.be.size)
        rw [v6]
        clear hs hd hr e42 v6 F FA FB
        go_wp2
        go_ret
        exact ⟨rfl, BE⟩
    · rw [h1] at L1
      rw [h2] at L2
      rw [h3] at L3
      clear h1 h2 h3 KEY L4
      obtain ⟨⟨a0, a1, a2, a3, az⟩, ⟨b0, b1, b2, b3, bz⟩, ⟨c0, c1, c2, c3, cz⟩, _, _⟩ := F.out
      go_wp2_with fail
      with_reducible refine (L1 _).mono ?_
      rintro e wn ⟨rfl, m⟩
      have F := Lib.hid (F.out.next m.below)
      clear m a0 a1 a2 a3 az b0 b1 b2 b3 bz c0 c1 c2 c3 cz
      obtain ⟨⟨a0, a1, a2, a3, az⟩, ⟨b0, b1, b2, b3, bz⟩, ⟨c0, c1, c2, c3, cz⟩, _, _⟩ := F.out
      go_wp2_with fail
      with_reducible refine (L3 _).mono ?_
      rintro e wn ⟨rfl, m⟩
      have F := Lib.hid (F.out.next m.below)
      clear m a0 a1 a2 a3 az b0 b1 b2 b3 bz c0 c1 c2 c3 cz
      obtain ⟨⟨a0, a1, a2, a3, az⟩, ⟨b0, b1, b2, b3, bz⟩, ⟨c0, c1, c2, c3, cz⟩, _, _⟩ := F.out
      go_wp2
      clear a0 a1 a2 a3 az b0 b1 b2 b3 bz c0 c1 c2 c3 cz
      have FA := Lib.hid F.out.A
      have FB := Lib.hid F.out.B
      have ok : (planL x y ga gb k1 k2).ok = true := rfl
      refine region_inv (Inv := fun l a wr => ∃ (e : Nat → Bool) (t : Nat → Value) (g : Nat → Nat), l = #[e 0, e 1, e 2, e 3, e 4, e 5, e 6, e 7, e 8, e 9, e 10, e 11, e 12, e 13, e 14, e 15, e 16, e 17, e 18, e 19, e 20, e 21, e 22, e 23, e 24, e 25, e 26, e 27, e 28, e 29, e 30, e 31, e 32, e 33, e 34, e 35, e 36, e 37, e 38, e 39, e 40, e 41, e 42] ∧ a = ⟨#[.agg #[.int .i64 x.b, .int .i64 x.d, .int .i64 x.s, .int .i64 x.i], .agg #[.int .i64 y.b, .int .i64 y.d, .int .i64 y.s, .int .i64 y.i], .agg #[.int .i64 z.b, .int .i64 z.d, .int .i64 z.s, .int .i64 z.i], .pointer (some ⟨w.heap.size, 0, none⟩), .pointer (some ⟨w.heap.size + 1, 0, none⟩), .pointer (some ⟨w.heap.size + 1 + 1, 0, none⟩), t 6, .pointer (some ⟨ga, 0, none⟩), .pointer (some ⟨gb, 0, none⟩), .pointer (some ⟨gc, 0, none⟩), u10, u11, u12, u13, u14, u15, .agg #[.int .i64 x.b, .int .i64 x.d, .int .i64 x.s, .int .i64 x.i], .agg #[.int .i64 y.b, .int .i64 y.d, .int .i64 y.s, .int .i64 y.i], .bool true, .bool true, .agg #[.int .i64 y.b, .int .i64 y.d, .int .i64 y.s, .int .i64 y.i], .agg #[.int .i64 z.b, .int .i64 z.d, .int .i64 z.s, .int .i64 z.i], .bool false, .bool false, .bool false, undef, undef, undef, undef, .bool false, t 30, t 31, t 32, t 33, t 34, t 35, t 36, t 37, t 38, t 39, t 40, t 41, t 42, t 43, t 44, t 45, t 46, t 47, t 48, t 49, t 50, t 51, t 52, t 53, t 54, t 55, t 56, t 57, t 58, t 59, t 60, t 61, t 62, t 63, t 64, t 65, t 66, t 67, t 68, t 69, t 70, t 71], []⟩ ∧ Stage (planL x y ga gb k1 k2) wn e t g wr) (by kernel_rfl) ?step ?start ?done
      case start => exact ⟨fun _ => false, fun i => if i = 6 then .bool false else undef, fun _ => 0, rfl, rfl, Stage.start _ _ _ _⟩
      case step =>
        rintro l a wr ⟨e, t, g, rfl, rfl, hs⟩ i o ho hi ha
        match i, ho, hi, ha with
        | 0, ho, hi, ha =>
          obtain rfl : _ = o := Option.some.inj ho
          refine wpOp_step (i := 0) rfl (fun K hK => ?_)
          have HK : Shut (∀ a w, _ → K a w) := hK
          clear hK ho
          have HS := Lib.hid hs
          clear hs ha hi
          go_simp
          (with_reducible refine (wakes_any _ (F.out.T.below HS.out.be)).mono ?_)
          rintro e' w' ⟨rfl, m⟩
          go_wp2_with fail
          exact HK.out _ _ ⟨upd e 0 true, upd t 30 _, g, rfl, rfl, by exact (HS.out.grow m.below).vals ok (i := 0) rfl⟩
        | 1, ho, hi, ha =>
          obtain rfl : _ = o := Option.some.inj ho
          have T0 : t 30 = .bool true := hs.val 0 rfl (ha { on := 0, ground := .data } (by simp) rfl)
          have H0 := Lib.hid T0
          refine wpOp_step (i := 1) rfl (fun K hK => ?_)
          have HK : Shut (∀ a w, _ → K a w) := hK
          clear hK ho
          have HS := Lib.hid hs
          clear hs ha hi
          go_simp
          exact HK.out _ _ ⟨upd e 1 true, upd (upd t 30 _) 31 _, g, rfl, rfl, by rw [upd_self H0.out]; exact HS.out.vals ok (i := 1) rfl⟩
        | 2, ho, hi, ha =>
          obtain rfl : _ = o := Option.some.inj ho
          have T1 : t 31 = .bool true := hs.val 1 rfl (ha { on := 1, ground := .guard } (by simp) rfl)
          have H1 := Lib.hid T1
          refine wpOp_step (i := 2) rfl (fun K hK => ?_)
          have HK : Shut (∀ a w, _ → K a w) := hK
          clear hK ho
          obtain ⟨c0, c1, c2, c3, cz⟩ := FA.out.next hs.be
          have HS := Lib.hid hs
          clear hs ha hi
          go_simp
          exact HK.out _ _ ⟨upd e 2 true, upd (upd t 31 _) 32 _, g, rfl, rfl, by rw [upd_self H1.out]; exact HS.out.vals ok (i := 2) rfl⟩
        | 3, ho, hi, ha =>
          obtain rfl : _ = o := Option.some.inj ho
          have T1 : t 31 = .bool true := hs.val 1 rfl (ha { on := 1, ground := .guard } (by simp) rfl)
          have H1 := Lib.hid T1
          refine wpOp_step (i := 3) rfl (fun K hK => ?_)
          have HK : Shut (∀ a w, _ → K a w) := hK
          clear hK ho
          obtain ⟨c0, c1, c2, c3, cz⟩ := FB.out.next hs.be
          have HS := Lib.hid hs
          clear hs ha hi
          go_simp
          exact HK.out _ _ ⟨upd e 3 true, upd (upd t 31 _) 33 _, g, rfl, rfl, by rw [upd_self H1.out]; exact HS.out.vals ok (i := 3) rfl⟩
        | 4, ho, hi, ha =>
          obtain rfl : _ = o := Option.some.inj ho
          have T1 : t 31 = .bool true := hs.val 1 rfl (ha { on := 1, ground := .guard } (by simp) rfl)
          have H1 := Lib.hid T1
          have T2 : t 32 = .agg #[.int .i64 x.b, .int .i64 x.d, .int .i64 x.s, .int .i64 x.i] := hs.val 2 rfl (ha { on := 2, ground := .data } (by simp) rfl)
          have H2 := Lib.hid T2
          have T3 : t 33 = .agg #[.int .i64 y.b, .int .i64 y.d, .int .i64 y.s, .int .i64 y.i] := hs.val 3 rfl (ha { on := 3, ground := .data } (by simp) rfl)
          have H3 := Lib.hid T3
          refine wpOp_step (i := 4) rfl (fun K hK => ?_)
          have HK : Shut (∀ a w, _ → K a w) := hK
          clear hK ho
          have HS := Lib.hid hs
          clear hs ha hi
          go_simp
          rw [ifs_no hne.out]
          go_simp
          exact HK.out _ _ ⟨upd e 4 true, upd (upd (upd (upd t 31 _) 32 _) 33 _) 34 _, g, rfl, rfl, by rw [upd_self H1.out, upd_self H2.out, upd_self H3.out]; exact HS.out.vals ok (i := 4) rfl⟩
        | 5, ho, hi, ha =>
          obtain rfl : _ = o := Option.some.inj ho
          have T1 : t 31 = .bool true := hs.val 1 rfl (ha { on := 1, ground := .guard } (by simp) rfl)
          have H1 := Lib.hid T1
          refine wpOp_step (i := 5) rfl (fun K hK => ?_)
          have HK : Shut (∀ a w, _ → K a w) := hK
          clear hK ho
          obtain ⟨c0, c1, c2, c3, cz⟩ := FA.out.next hs.be
          have HS := Lib.hid hs
          clear hs ha hi
          go_simp
          exact HK.out _ _ ⟨upd e 5 true, upd (upd t 31 _) 35 _, g, rfl, rfl, by rw [upd_self H1.out]; exact HS.out.vals ok (i := 5) rfl⟩
        | 6, ho, hi, ha =>
          obtain rfl : _ = o := Option.some.inj ho
          have T1 : t 31 = .bool true := hs.val 1 rfl (ha { on := 1, ground := .guard } (by simp) rfl)
          have H1 := Lib.hid T1
          refine wpOp_step (i := 6) rfl (fun K hK => ?_)
          have HK : Shut (∀ a w, _ → K a w) := hK
          clear hK ho
          obtain ⟨c0, c1, c2, c3, cz⟩ := FB.out.next hs.be
          have HS := Lib.hid hs
          clear hs ha hi
          go_simp
          exact HK.out _ _ ⟨upd e 6 true, upd (upd t 31 _) 36 _, g, rfl, rfl, by rw [upd_self H1.out]; exact HS.out.vals ok (i := 6) rfl⟩
        | 7, ho, hi, ha =>
          obtain rfl : _ = o := Option.some.inj ho
          have T1 : t 31 = .bool true := hs.val 1 rfl (ha { on := 1, ground := .guard } (by simp) rfl)
          have H1 := Lib.hid T1
          have T5 : t 35 = .agg #[.int .i64 x.b, .int .i64 x.d, .int .i64 x.s, .int .i64 x.i] := hs.val 5 rfl (ha { on := 5, ground := .data } (by simp) rfl)
          have H5 := Lib.hid T5
          have T6 : t 36 = .agg #[.int .i64 y.b, .int .i64 y.d, .int .i64 y.s, .int .i64 y.i] := hs.val 6 rfl (ha { on := 6, ground := .data } (by simp) rfl)
          have H6 := Lib.hid T6
          refine wpOp_step (i := 7) rfl (fun K hK => ?_)
          have HK : Shut (∀ a w, _ → K a w) := hK
          clear hK ho
          have HS := Lib.hid hs
          clear hs ha hi
          go_simp
          (with_reducible refine (L1 _).mono ?_)
          rintro e' w' ⟨rfl, m⟩
          go_wp2_with fail
          exact HK.out _ _ ⟨upd e 7 true, upd (upd (upd (upd t 31 _) 35 _) 36 _) 37 _, g, rfl, rfl, by rw [upd_self H1.out, upd_self H5.out, upd_self H6.out]; exact (HS.out.grow m.below).vals ok (i := 7) rfl⟩
        | 8, ho, hi, ha =>
          obtain rfl : _ = o := Option.some.inj ho
          have T1 : t 31 = .bool true := hs.val 1 rfl (ha { on := 1, ground := .guard } (by simp) rfl)
          have H1 := Lib.hid T1
          have T7 : t 37 = .bool true := hs.val 7 rfl (ha { on := 7, ground := .data } (by simp) rfl)
          have H7 := Lib.hid T7
          refine wpOp_step (i := 8) rfl (fun K hK => ?_)
          have HK : Shut (∀ a w, _ → K a w) := hK
          clear hK ho
          have HS := Lib.hid hs
          clear hs ha hi
          go_simp
          exact HK.out _ _ ⟨upd e 8 true, upd (upd (upd t 31 _) 37 _) 38 _, g, rfl, rfl, by rw [upd_self H1.out, upd_self H7.out]; exact HS.out.vals ok (i := 8) rfl⟩
        | 9, ho, hi, ha =>
          obtain rfl : _ = o := Option.some.inj ho
          have T1 : t 31 = .bool true := hs.val 1 rfl (ha { on := 1, ground := .guard } (by simp) rfl)
          have H1 := Lib.hid T1
          have T8 : t 38 = .bool false := hs.val 8 rfl (ha { on := 8, ground := .data } (by simp) rfl)
          have H8 := Lib.hid T8
          refine wpOp_step (i := 9) rfl (fun K hK => ?_)
          have HK : Shut (∀ a w, _ → K a w) := hK
          clear hK ho
          have HS := Lib.hid hs
          clear hs ha hi
          go_simp
          exact HK.out _ _ ⟨upd e 9 true, upd (upd (upd t 31 _) 38 _) 39 _, g, rfl, rfl, by rw [upd_self H1.out, upd_self H8.out]; exact HS.out.vals ok (i := 9) rfl⟩
        | 10, ho, hi, ha =>
          obtain rfl : _ = o := Option.some.inj ho
          have T9 : t 39 = .bool false := hs.val 9 rfl (ha { on := 9, ground := .guard } (by simp) rfl)
          have H9 := Lib.hid T9
          refine wpOp_step (i := 10) rfl (fun K hK => ?_)
          have HK : Shut (∀ a w, _ → K a w) := hK
          clear hK ho
          have HS := Lib.hid hs
          clear hs ha hi
          go_simp
          exact HK.out _ _ ⟨upd e 10 true, upd (upd t 39 _) 40 _, g, rfl, rfl, by rw [upd_self H9.out]; exact HS.out.vals ok (i := 10) rfl⟩
        | 11, ho, hi, ha =>
          obtain rfl : _ = o := Option.some.inj ho
          have T9 : t 39 = .bool false := hs.val 9 rfl (ha { on := 9, ground := .guard } (by simp) rfl)
          have H9 := Lib.hid T9
          refine wpOp_step (i := 11) rfl (fun K hK => ?_)
          have HK : Shut (∀ a w, _ → K a w) := hK
          clear hK ho
          have HS := Lib.hid hs
          clear hs ha hi
          go_simp
          exact HK.out _ _ ⟨upd e 11 true, upd (upd t 39 _) 41 _, g, rfl, rfl, by rw [upd_self H9.out]; exact HS.out.vals ok (i := 11) rfl⟩
        | 12, ho, hi, ha =>
          obtain rfl : _ = o := Option.some.inj ho
          have T9 : t 39 = .bool false := hs.val 9 rfl (ha { on := 9, ground := .guard } (by simp) rfl)
          have H9 := Lib.hid T9
          refine wpOp_step (i := 12) rfl (fun K hK => ?_)
          have HK : Shut (∀ a w, _ → K a w) := hK
          clear hK ho
          have HS := Lib.hid hs
          clear hs ha hi
          go_simp
          exact HK.out _ _ ⟨upd e 12 true, upd (upd t 39 _) 42 _, g, rfl, rfl, by rw [upd_self H9.out]; exact HS.out.vals ok (i := 12) rfl⟩
        | 13, ho, hi, ha =>
          obtain rfl : _ = o := Option.some.inj ho
          have T9 : t 39 = .bool false := hs.val 9 rfl (ha { on := 9, ground := .guard } (by simp) rfl)
          have H9 := Lib.hid T9
          refine wpOp_step (i := 13) rfl (fun K hK => ?_)
          have HK : Shut (∀ a w, _ → K a w) := hK
          clear hK ho
          have HS := Lib.hid hs
          clear hs ha hi
          go_simp
          exact HK.out _ _ ⟨upd e 13 true, upd (upd t 39 _) 43 _, g, rfl, rfl, by rw [upd_self H9.out]; exact HS.out.vals ok (i := 13) rfl⟩
        | 14, ho, hi, ha =>
          obtain rfl : _ = o := Option.some.inj ho
          have T1 : t 31 = .bool true := hs.val 1 rfl (ha { on := 1, ground := .guard } (by simp) rfl)
          have H1 := Lib.hid T1
          have T9 : t 39 = .bool false := hs.val 9 rfl (ha { on := 9, ground := .data } (by simp) rfl)
          have H9 := Lib.hid T9
          refine wpOp_step (i := 14) rfl (fun K hK => ?_)
          have HK : Shut (∀ a w, _ → K a w) := hK
          clear hK ho
          have HS := Lib.hid hs
          clear hs ha hi
          go_simp
          exact HK.out _ _ ⟨upd e 14 true, upd (upd (upd t 31 _) 39 _) 44 _, g, rfl, rfl, by rw [upd_self H1.out, upd_self H9.out]; exact HS.out.vals ok (i := 14) rfl⟩
        | 15, ho, hi, ha =>
          obtain rfl : _ = o := Option.some.inj ho
          have T1 : t 31 = .bool true := hs.val 1 rfl (ha { on := 1, ground := .guard } (by simp) rfl)
          have H1 := Lib.hid T1
          have T4 : t 34 = .bool false := hs.val 4 rfl (ha { on := 4, ground := .data } (by simp) rfl)
          have H4 := Lib.hid T4
          have T14 : t 44 = .bool false := hs.val 14 rfl (ha { on := 14, ground := .data } (by simp) rfl)
          have H14 := Lib.hid T14
          refine wpOp_step (i := 15) rfl (fun K hK => ?_)
          have HK : Shut (∀ a w, _ → K a w) := hK
          clear hK ho
          have HS := Lib.hid hs
          clear hs ha hi
          go_simp
          exact HK.out _ _ ⟨upd e 15 true, upd (upd (upd (upd t 31 _) 34 _) 44 _) 45 _, g, rfl, rfl, by rw [upd_self H1.out, upd_self H4.out, upd_self H14.out]; exact HS.out.vals ok (i := 15) rfl⟩
        | 16, ho, hi, ha =>
          obtain rfl : _ = o := Option.some.inj ho
          have T1 : t 31 = .bool true := hs.val 1 rfl (ha { on := 1, ground := .data } (by simp) rfl)
          have H1 := Lib.hid T1
          have T15 : t 45 = .bool true := hs.val 15 rfl (ha { on := 15, ground := .data } (by simp) rfl)
          have H15 := Lib.hid T15
          refine wpOp_step (i := 16) rfl (fun K hK => ?_)
          have HK : Shut (∀ a w, _ → K a w) := hK
          clear hK ho
          have HS := Lib.hid hs
          clear hs ha hi
          go_simp
          exact HK.out _ _ ⟨upd e 16 true, upd (upd (upd t 31 _) 45 _) 46 _, g, rfl, rfl, by rw [upd_self H1.out, upd_self H15.out]; exact HS.out.vals ok (i := 16) rfl⟩
        | 17, ho, hi, ha =>
          obtain rfl : _ = o := Option.some.inj ho
          have T16 : t 46 = .bool true := hs.val 16 rfl (ha { on := 16, ground := .data } (by simp) rfl)
          have H16 := Lib.hid T16
          refine wpOp_step (i := 17) rfl (fun K hK => ?_)
          have HK : Shut (∀ a w, _ → K a w) := hK
          clear hK ho
          have HS := Lib.hid hs
          clear hs ha hi
          go_simp
          exact HK.out _ _ ⟨upd e 17 true, upd (upd t 46 _) 47 _, g, rfl, rfl, by rw [upd_self H16.out]; exact HS.out.vals ok (i := 17) rfl⟩
        | 18, ho, hi, ha =>
          obtain rfl : _ = o := Option.some.inj ho
          have T17 : t 47 = .bool true := hs.val 17 rfl (ha { on := 17, ground := .guard } (by simp) rfl)
          have H17 := Lib.hid T17
          refine wpOp_step (i := 18) rfl (fun K hK => ?_)
          have HK : Shut (∀ a w, _ → K a w) := hK
          clear hK ho
          obtain ⟨c0, c1, c2, c3, cz⟩ := FA.out.next hs.be
          have HS := Lib.hid hs
          clear hs ha hi
          go_simp
          exact HK.out _ _ ⟨upd e 18 true, upd (upd t 47 _) 48 _, g, rfl, rfl, by rw [upd_self H17.out]; exact HS.out.vals ok (i := 18) rfl⟩
        | 19, ho, hi, ha =>
          obtain rfl : _ = o := Option.some.inj ho
          have T17 : t 47 = .bool true := hs.val 17 rfl (ha { on := 17, ground := .guard } (by simp) rfl)
          have H17 := Lib.hid T17
          refine wpOp_step (i := 19) rfl (fun K hK => ?_)
          have HK : Shut (∀ a w, _ → K a w) := hK
          clear hK ho
          obtain ⟨c0, c1, c2, c3, cz⟩ := FB.out.next hs.be
          have HS := Lib.hid hs
          clear hs ha hi
          go_simp
          exact HK.out _ _ ⟨upd e 19 true, upd (upd t 47 _) 49 _, g, rfl, rfl, by rw [upd_self H17.out]; exact HS.out.vals ok (i := 19) rfl⟩
        | 20, ho, hi, ha =>
          obtain rfl : _ = o := Option.some.inj ho
          have T17 : t 47 = .bool true := hs.val 17 rfl (ha { on := 17, ground := .guard } (by simp) rfl)
          have H17 := Lib.hid T17
          have T18 : t 48 = .agg #[.int .i64 x.b, .int .i64 x.d, .int .i64 x.s, .int .i64 x.i] := hs.val 18 rfl (ha { on := 18, ground := .data } (by simp) rfl)
          have H18 := Lib.hid T18
          have T19 : t 49 = .agg #[.int .i64 y.b, .int .i64 y.d, .int .i64 y.s, .int .i64 y.i] := hs.val 19 rfl (ha { on := 19, ground := .data } (by simp) rfl)
          have H19 := Lib.hid T19
          refine wpOp_step (i := 20) rfl (fun K hK => ?_)
          have HK : Shut (∀ a w, _ → K a w) := hK
          clear hK ho
          have HS := Lib.hid hs
          clear hs ha hi
          go_simp
          (with_reducible refine (L1 _).mono ?_)
          rintro e' w' ⟨rfl, m⟩
          go_wp2_with fail
          exact HK.out _ _ ⟨upd e 20 true, upd (upd (upd (upd t 47 _) 48 _) 49 _) 50 _, g, rfl, rfl, by rw [upd_self H17.out, upd_self H18.out, upd_self H19.out]; exact (HS.out.grow m.below).vals ok (i := 20) rfl⟩
        | 21, ho, hi, ha =>
          obtain rfl : _ = o := Option.some.inj ho
          have T17 : t 47 = .bool true := hs.val 17 rfl (ha { on := 17, ground := .guard } (by simp) rfl)
          have H17 := Lib.hid T17
          have T20 : t 50 = .bool true := hs.val 20 rfl (ha { on := 20, ground := .data } (by simp) rfl)
          have H20 := Lib.hid T20
          refine wpOp_step (i := 21) rfl (fun K hK => ?_)
          have HK : Shut (∀ a w, _ → K a w) := hK
          clear hK ho
          have HS := Lib.hid hs
          clear hs ha hi
          go_simp
          exact HK.out _ _ ⟨upd e 21 true, upd (upd (upd t 47 _) 50 _) 51 _, g, rfl, rfl, by rw [upd_self H17.out, upd_self H20.out]; exact HS.out.vals ok (i := 21) rfl⟩
        | 22, ho, hi, ha =>
          obtain rfl : _ = o := Option.some.inj ho
          have T21 : t 51 = .bool true := hs.val 21 rfl (ha { on := 21, ground := .guard } (by simp) rfl)
          have H21 := Lib.hid T21
          refine wpOp_step (i := 22) rfl (fun K hK => ?_)
          have HK : Shut (∀ a w, _ → K a w) := hK
          clear hK ho
          obtain ⟨c0, c1, c2, c3, cz⟩ := FB.out.next hs.be
          have HS := Lib.hid hs
          clear hs ha hi
          go_simp
          exact HK.out _ _ ⟨upd e 22 true, upd (upd t 51 _) 52 _, g, rfl, rfl, by rw [upd_self H21.out]; exact HS.out.vals ok (i := 22) rfl⟩
        | 23, ho, hi, ha =>
          obtain rfl : _ = o := Option.some.inj ho
          have T21 : t 51 = .bool true := hs.val 21 rfl (ha { on := 21, ground := .guard } (by simp) rfl)
          have H21 := Lib.hid T21
          refine wpOp_step (i := 23) rfl (fun K hK => ?_)
          have HK : Shut (∀ a w, _ → K a w) := hK
          clear hK ho
          obtain ⟨c0, c1, c2, c3, cz⟩ := FA.out.next hs.be
          have HS := Lib.hid hs
          clear hs ha hi
          go_simp
          exact HK.out _ _ ⟨upd e 23 true, upd (upd t 51 _) 53 _, g, rfl, rfl, by rw [upd_self H21.out]; exact HS.out.vals ok (i := 23) rfl⟩
        | 24, ho, hi, ha =>
          obtain rfl : _ = o := Option.some.inj ho
          have T21 : t 51 = .bool true := hs.val 21 rfl (ha { on := 21, ground := .guard } (by simp) rfl)
          have H21 := Lib.hid T21
          have T22 : t 52 = .agg #[.int .i64 y.b, .int .i64 y.d, .int .i64 y.s, .int .i64 y.i] := hs.val 22 rfl (ha { on := 22, ground := .data } (by simp) rfl)
          have H22 := Lib.hid T22
          have T23 : t 53 = .agg #[.int .i64 x.b, .int .i64 x.d, .int .i64 x.s, .int .i64 x.i] := hs.val 23 rfl (ha { on := 23, ground := .data } (by simp) rfl)
          have H23 := Lib.hid T23
          refine wpOp_step (i := 24) rfl (fun K hK => ?_)
          have HK : Shut (∀ a w, _ → K a w) := hK
          clear hK ho
          have HS := Lib.hid hs
          clear hs ha hi
          go_simp
          (with_reducible refine (L2 _).mono ?_)
          rintro e' w' ⟨rfl, m⟩
          go_wp2_with fail
          exact HK.out _ _ ⟨upd e 24 true, upd (upd (upd (upd t 51 _) 52 _) 53 _) 54 _, g, rfl, rfl, by rw [upd_self H21.out, upd_self H22.out, upd_self H23.out]; exact (HS.out.grow m.below).vals ok (i := 24) rfl⟩
        | 25, ho, hi, ha =>
          obtain rfl : _ = o := Option.some.inj ho
          have T17 : t 47 = .bool true := hs.val 17 rfl (ha { on := 17, ground := .guard } (by simp) rfl)
          have H17 := Lib.hid T17
          have T21 : t 51 = .bool true := hs.val 21 rfl (ha { on := 21, ground := .data } (by simp) rfl)
          have H21 := Lib.hid T21
          have T24 : t 54 = .bool false := hs.val 24 rfl (ha { on := 24, ground := .data } (by simp) rfl)
          have H24 := Lib.hid T24
          refine wpOp_step (i := 25) rfl (fun K hK => ?_)
          have HK : Shut (∀ a w, _ → K a w) := hK
          clear hK ho
          have HS := Lib.hid hs
          clear hs ha hi
          go_simp
          exact HK.out _ _ ⟨upd e 25 true, upd (upd (upd (upd t 47 _) 51 _) 54 _) 55 _, g, rfl, rfl, by rw [upd_self H17.out, upd_self H21.out, upd_self H24.out]; exact HS.out.vals ok (i := 25) rfl⟩
        | 26, ho, hi, ha =>
          obtain rfl : _ = o := Option.some.inj ho
          have T17 : t 47 = .bool true := hs.val 17 rfl (ha { on := 17, ground := .guard } (by simp) rfl)
          have H17 := Lib.hid T17
          have T25 : t 55 = .bool false := hs.val 25 rfl (ha { on := 25, ground := .data } (by simp) rfl)
          have H25 := Lib.hid T25
          refine wpOp_step (i := 26) rfl (fun K hK => ?_)
          have HK : Shut (∀ a w, _ → K a w) := hK
          clear hK ho
          have HS := Lib.hid hs
          clear hs ha hi
          go_simp
          exact HK.out _ _ ⟨upd e 26 true, upd (upd (upd t 47 _) 55 _) 56 _, g, rfl, rfl, by rw [upd_self H17.out, upd_self H25.out]; exact HS.out.vals ok (i := 26) rfl⟩
        | 27, ho, hi, ha =>
          obtain rfl : _ = o := Option.some.inj ho
          have T17 : t 47 = .bool true := hs.val 17 rfl (ha { on := 17, ground := .data } (by simp) rfl)
          have H17 := Lib.hid T17
          have T26 : t 56 = .bool true := hs.val 26 rfl (ha { on := 26, ground := .data } (by simp) rfl)
          have H26 := Lib.hid T26
          refine wpOp_step (i := 27) rfl (fun K hK => ?_)
          have HK : Shut (∀ a w, _ → K a w) := hK
          clear hK ho
          have HS := Lib.hid hs
          clear hs ha hi
          go_simp
          exact HK.out _ _ ⟨upd e 27 true, upd (upd (upd t 47 _) 56 _) 57 _, g, rfl, rfl, by rw [upd_self H17.out, upd_self H26.out]; exact HS.out.vals ok (i := 27) rfl⟩
        | 28, ho, hi, ha =>
          obtain rfl : _ = o := Option.some.inj ho
          have T27 : t 57 = .bool true := hs.val 27 rfl (ha { on := 27, ground := .data } (by simp) rfl)
          have H27 := Lib.hid T27
          refine wpOp_step (i := 28) rfl (fun K hK => ?_)
          have HK : Shut (∀ a w, _ → K a w) := hK
          clear hK ho
          have HS := Lib.hid hs
          clear hs ha hi
          go_simp
          exact HK.out _ _ ⟨upd e 28 true, upd (upd t 57 _) 58 _, g, rfl, rfl, by rw [upd_self H27.out]; exact HS.out.vals ok (i := 28) rfl⟩
        | 29, ho, hi, ha =>
          obtain rfl : _ = o := Option.some.inj ho
          have T28 : t 58 = .bool true := hs.val 28 rfl (ha { on := 28, ground := .guard } (by simp) rfl)
          have H28 := Lib.hid T28
          refine wpOp_step (i := 29) rfl (fun K hK => ?_)
          have HK : Shut (∀ a w, _ → K a w) := hK
          clear hK ho
          have HS := Lib.hid hs
          clear hs ha hi
          go_simp
          exact HK.out _ _ ⟨upd e 29 true, upd (upd t 58 _) 59 _, g, rfl, rfl, by rw [upd_self H28.out]; exact HS.out.vals ok (i := 29) rfl⟩
        | 30, ho, hi, ha =>
          obtain rfl : _ = o := Option.some.inj ho
          have T28 : t 58 = .bool true := hs.val 28 rfl (ha { on := 28, ground := .guard } (by simp) rfl)
          have H28 := Lib.hid T28
          have T29 : t 59 = .pointer (some ⟨ga, 0, none⟩) := hs.val 29 rfl (ha { on := 29, ground := .data } (by simp) rfl)
          have H29 := Lib.hid T29
          refine wpOp_step (i := 30) rfl (fun K hK => ?_)
          have HK : Shut (∀ a w, _ → K a w) := hK
          clear hK ho
          obtain ⟨c0, c1, c2, c3, cz⟩ := FA.out.next hs.be
          have HS := Lib.hid hs
          clear hs ha hi
          go_simp
          exact HK.out _ _ ⟨upd e 30 true, upd (upd (upd t 58 _) 59 _) 60 _, g, rfl, rfl, by rw [upd_self H28.out, upd_self H29.out]; exact HS.out.vals ok (i := 30) rfl⟩
        | 31, ho, hi, ha =>
          obtain rfl : _ = o := Option.some.inj ho
          have T28 : t 58 = .bool true := hs.val 28 rfl (ha { on := 28, ground := .guard } (by simp) rfl)
          have H28 := Lib.hid T28
          refine wpOp_step (i := 31) rfl (fun K hK => ?_)
          have HK : Shut (∀ a w, _ → K a w) := hK
          clear hK ho
          have HS := Lib.hid hs
          clear hs ha hi
          go_simp
          exact HK.out _ _ ⟨upd e 31 true, upd (upd t 58 _) 61 _, g, rfl, rfl, by rw [upd_self H28.out]; exact HS.out.vals ok (i := 31) rfl⟩
        | 32, ho, hi, ha =>
          obtain rfl : _ = o := Option.some.inj ho
          have T28 : t 58 = .bool true := hs.val 28 rfl (ha { on := 28, ground := .guard } (by simp) rfl)
          have H28 := Lib.hid T28
          have T31 : t 61 = .pointer (some ⟨gb, 0, none⟩) := hs.val 31 rfl (ha { on := 31, ground := .data } (by simp) rfl)
          have H31 := Lib.hid T31
          refine wpOp_step (i := 32) rfl (fun K hK => ?_)
          have HK : Shut (∀ a w, _ → K a w) := hK
          clear hK ho
          obtain ⟨c0, c1, c2, c3, cz⟩ := FB.out.next hs.be
          have HS := Lib.hid hs
          clear hs ha hi
          go_simp
          exact HK.out _ _ ⟨upd e 32 true, upd (upd (upd t 58 _) 61 _) 62 _, g, rfl, rfl, by rw [upd_self H28.out, upd_self H31.out]; exact HS.out.vals ok (i := 32) rfl⟩
        | 33, ho, hi, ha =>
          obtain rfl : _ = o := Option.some.inj ho
          have T28 : t 58 = .bool true := hs.val 28 rfl (ha { on := 28, ground := .guard } (by simp) rfl)
          have H28 := Lib.hid T28
          have T30 : t 60 = .agg #[.int .i64 x.b, .int .i64 x.d, .int .i64 x.s] := hs.val 30 rfl (ha { on := 30, ground := .data } (by simp) rfl)
          have H30 := Lib.hid T30
          have T32 : t 62 = .agg #[.int .i64 y.b, .int .i64 y.d, .int .i64 y.s] := hs.val 32 rfl (ha { on := 32, ground := .data } (by simp) rfl)
          have H32 := Lib.hid T32
          refine wpOp_step (i := 33) rfl (fun K hK => ?_)
          have HK : Shut (∀ a w, _ → K a w) := hK
          clear hK ho
          have HS := Lib.hid hs
          clear hs ha hi
          go_simp
          (with_reducible refine (C1 _).mono ?_)
          rintro e' w' ⟨rfl, m⟩
          go_wp2_with fail
          exact HK.out _ _ ⟨upd e 33 true, upd (upd (upd (upd t 58 _) 60 _) 62 _) 63 _, g, rfl, rfl, by rw [upd_self H28.out, upd_self H30.out, upd_self H32.out]; exact (HS.out.grow m.below).vals ok (i := 33) rfl⟩
        | 34, ho, hi, ha =>
          obtain rfl : _ = o := Option.some.inj ho
          have T28 : t 58 = .bool true := hs.val 28 rfl (ha { on := 28, ground := .guard } (by simp) rfl)
          have H28 := Lib.hid T28
          refine wpOp_step (i := 34) rfl (fun K hK => ?_)
          have HK : Shut (∀ a w, _ → K a w) := hK
          clear hK ho
          have HS := Lib.hid hs
          clear hs ha hi
          go_simp
          exact HK.out _ _ ⟨upd e 34 true, upd (upd t 58 _) 64 _, g, rfl, rfl, by rw [upd_self H28.out]; exact HS.out.vals ok (i := 34) rfl⟩
        | 35, ho, hi, ha =>
          obtain rfl : _ = o := Option.some.inj ho
          have T28 : t 58 = .bool true := hs.val 28 rfl (ha { on := 28, ground := .guard } (by simp) rfl)
          have H28 := Lib.hid T28
          have T34 : t 64 = .pointer (some ⟨gb, 0, none⟩) := hs.val 34 rfl (ha { on := 34, ground := .data } (by simp) rfl)
          have H34 := Lib.hid T34
          refine wpOp_step (i := 35) rfl (fun K hK => ?_)
          have HK : Shut (∀ a w, _ → K a w) := hK
          clear hK ho
          obtain ⟨c0, c1, c2, c3, cz⟩ := FB.out.next hs.be
          have HS := Lib.hid hs
          clear hs ha hi
          go_simp
          exact HK.out _ _ ⟨upd e 35 true, upd (upd (upd t 58 _) 64 _) 65 _, g, rfl, rfl, by rw [upd_self H28.out, upd_self H34.out]; exact HS.out.vals ok (i := 35) rfl⟩
        | 36, ho, hi, ha =>
          obtain rfl : _ = o := Option.some.inj ho
          have T28 : t 58 = .bool true := hs.val 28 rfl (ha { on := 28, ground := .guard } (by simp) rfl)
          have H28 := Lib.hid T28
          refine wpOp_step (i := 36) rfl (fun K hK => ?_)
          have HK : Shut (∀ a w, _ → K a w) := hK
          clear hK ho
          have HS := Lib.hid hs
          clear hs ha hi
          go_simp
          exact HK.out _ _ ⟨upd e 36 true, upd (upd t 58 _) 66 _, g, rfl, rfl, by rw [upd_self H28.out]; exact HS.out.vals ok (i := 36) rfl⟩
        | 37, ho, hi, ha =>
          obtain rfl : _ = o := Option.some.inj ho
          have T28 : t 58 = .bool true := hs.val 28 rfl (ha { on := 28, ground := .guard } (by simp) rfl)
          have H28 := Lib.hid T28
          have T36 : t 66 = .pointer (some ⟨ga, 0, none⟩) := hs.val 36 rfl (ha { on := 36, ground := .data } (by simp) rfl)
          have H36 := Lib.hid T36
          refine wpOp_step (i := 37) rfl (fun K hK => ?_)
          have HK : Shut (∀ a w, _ → K a w) := hK
          clear hK ho
          obtain ⟨c0, c1, c2, c3, cz⟩ := FA.out.next hs.be
          have HS := Lib.hid hs
          clear hs ha hi
          go_simp
          exact HK.out _ _ ⟨upd e 37 true, upd (upd (upd t 58 _) 66 _) 67 _, g, rfl, rfl, by rw [upd_self H28.out, upd_self H36.out]; exact HS.out.vals ok (i := 37) rfl⟩
        | 38, ho, hi, ha =>
          obtain rfl : _ = o := Option.some.inj ho
          have T28 : t 58 = .bool true := hs.val 28 rfl (ha { on := 28, ground := .guard } (by simp) rfl)
          have H28 := Lib.hid T28
          have T35 : t 65 = .agg #[.int .i64 y.b, .int .i64 y.d, .int .i64 y.s] := hs.val 35 rfl (ha { on := 35, ground := .data } (by simp) rfl)
          have H35 := Lib.hid T35
          have T37 : t 67 = .agg #[.int .i64 x.b, .int .i64 x.d, .int .i64 x.s] := hs.val 37 rfl (ha { on := 37, ground := .data } (by simp) rfl)
          have H37 := Lib.hid T37
          refine wpOp_step (i := 38) rfl (fun K hK => ?_)
          have HK : Shut (∀ a w, _ → K a w) := hK
          clear hK ho
          have HS := Lib.hid hs
          clear hs ha hi
          go_simp
          (with_reducible refine (C2 _).mono ?_)
          rintro e' w' ⟨rfl, m⟩
          go_wp2_with fail
          exact HK.out _ _ ⟨upd e 38 true, upd (upd (upd (upd t 58 _) 65 _) 67 _) 68 _, g, rfl, rfl, by rw [upd_self H28.out, upd_self H35.out, upd_self H37.out]; exact (HS.out.grow m.below).vals ok (i := 38) rfl⟩
        | 39, ho, hi, ha =>
          obtain rfl : _ = o := Option.some.inj ho
          have T28 : t 58 = .bool true := hs.val 28 rfl (ha { on := 28, ground := .guard } (by simp) rfl)
          have H28 := Lib.hid T28
          have T38 : t 68 = .int .i64 k2 := hs.val 38 rfl (ha { on := 38, ground := .data } (by simp) rfl)
          have H38 := Lib.hid T38
          have ng := neg.out
          refine wpOp_step (i := 39) rfl (fun K hK => ?_)
          have HK : Shut (∀ a w, _ → K a w) := hK
          clear hK ho
          have HS := Lib.hid hs
          clear hs ha hi
          go_simp
          exact HK.out _ _ ⟨upd e 39 true, upd (upd (upd t 58 _) 68 _) 69 _, g, rfl, rfl, by rw [upd_self H28.out, upd_self H38.out]; exact HS.out.vals ok (i := 39) rfl⟩
        | 40, ho, hi, ha =>
          obtain rfl : _ = o := Option.some.inj ho
          have T28 : t 58 = .bool true := hs.val 28 rfl (ha { on := 28, ground := .guard } (by simp) rfl)
          have H28 := Lib.hid T28
          have T33 : t 63 = .int .i64 k1 := hs.val 33 rfl (ha { on := 33, ground := .data } (by simp) rfl)
          have H33 := Lib.hid T33
          have T39 : t 69 = .int .i64 k1 := hs.val 39 rfl (ha { on := 39, ground := .data } (by simp) rfl)
          have H39 := Lib.hid T39
          refine wpOp_step (i := 40) rfl (fun K hK => ?_)
          have HK : Shut (∀ a w, _ → K a w) := hK
          clear hK ho
          have HS := Lib.hid hs
          clear hs ha hi
          go_simp
          exact HK.out _ _ ⟨upd e 40 true, upd (upd (upd (upd t 58 _) 63 _) 69 _) 70 _, g, rfl, rfl, by rw [upd_self H28.out, upd_self H33.out, upd_self H39.out]; exact HS.out.vals ok (i := 40) rfl⟩
        | 41, ho, hi, ha =>
          obtain rfl : _ = o := Option.some.inj ho
          have T28 : t 58 = .bool true := hs.val 28 rfl (ha { on := 28, ground := .data } (by simp) rfl)
          have H28 := Lib.hid T28
          have T40 : t 70 = .bool true := hs.val 40 rfl (ha { on := 40, ground := .data } (by simp) rfl)
          have H40 := Lib.hid T40
          refine wpOp_step (i := 41) rfl (fun K hK => ?_)
          have HK : Shut (∀ a w, _ → K a w) := hK
          clear hK ho
          have HS := Lib.hid hs
          clear hs ha hi
          go_simp
          exact HK.out _ _ ⟨upd e 41 true, upd (upd (upd t 58 _) 70 _) 71 _, g, rfl, rfl, by rw [upd_self H28.out, upd_self H40.out]; exact HS.out.vals ok (i := 41) rfl⟩
        | 42, ho, hi, ha =>
          obtain rfl : _ = o := Option.some.inj ho
          have T41 : t 71 = .bool true := hs.val 41 rfl (ha { on := 41, ground := .data } (by simp) rfl)
          have H41 := Lib.hid T41
          refine wpOp_step (i := 42) rfl (fun K hK => ?_)
          have HK : Shut (∀ a w, _ → K a w) := hK
          clear hK ho
          have HS := Lib.hid hs
          clear hs ha hi
          go_simp
          exact HK.out _ _ ⟨upd e 42 true, upd (upd t 71 _) 6 _, g, rfl, rfl, by rw [upd_self H41.out]; exact HS.out.vals ok (i := 42) rfl⟩
        | k + 43, ho, hi, ha => simp at ho
      case done =>
        rintro l a wr ⟨e, t, g, rfl, rfl, hs⟩ hr
        have hd := ready_done hr rfl (by decide +kernel)
        have e42 : e 42 = true := hd 42 (by decide)
        have v6 : t 6 = .bool true := hs.val 42 rfl e42
        have BE := F.out.be.trans (hs.be.mono F.out.be.size)
        rw [v6]
        clear hs hd hr e42 v6 F FA FB
        go_wp2
        go_ret
        exact ⟨rfl, BE⟩
    · rw [h1] at L1
      rw [h2] at L2
      clear h1 h2 KEY L3 L4
      obtain ⟨⟨a0, a1, a2, a3, az⟩, ⟨b0, b1, b2, b3, bz⟩, ⟨c0, c1, c2, c3, cz⟩, _, _⟩ := F.out
      go_wp2_with fail
      with_reducible refine (L1 _).mono ?_
      rintro e wn ⟨rfl, m⟩
      have F := Lib.hid (F.out.next m.below)
      clear m a0 a1 a2 a3 az b0 b1 b2 b3 bz c0 c1 c2 c3 cz
      obtain ⟨⟨a0, a1, a2, a3, az⟩, ⟨b0, b1, b2, b3, bz⟩, ⟨c0, c1, c2, c3, cz⟩, _, _⟩ := F.out
      go_wp2
      clear a0 a1 a2 a3 az b0 b1 b2 b3 bz c0 c1 c2 c3 cz
      have FA := Lib.hid F.out.A
      have FB := Lib.hid F.out.B
      have ok : (planE x y ga gb k1 k2).ok = true := rfl
      refine region_inv (Inv := fun l a wr => ∃ (e : Nat → Bool) (t : Nat → Value) (g : Nat → Nat), l = #[e 0, e 1, e 2, e 3, e 4, e 5, e 6, e 7, e 8, e 9, e 10, e 11, e 12, e 13, e 14, e 15, e 16, e 17, e 18, e 19, e 20, e 21, e 22, e 23, e 24, e 25, e 26, e 27, e 28, e 29, e 30, e 31, e 32, e 33, e 34, e 35, e 36, e 37, e 38, e 39, e 40, e 41, e 42] ∧ a = ⟨#[.agg #[.int .i64 x.b, .int .i64 x.d, .int .i64 x.s, .int .i64 x.i], .agg #[.int .i64 y.b, .int .i64 y.d, .int .i64 y.s, .int .i64 y.i], .agg #[.int .i64 z.b, .int .i64 z.d, .int .i64 z.s, .int .i64 z.i], .pointer (some ⟨w.heap.size, 0, none⟩), .pointer (some ⟨w.heap.size + 1, 0, none⟩), .pointer (some ⟨w.heap.size + 1 + 1, 0, none⟩), t 6, .pointer (some ⟨ga, 0, none⟩), .pointer (some ⟨gb, 0, none⟩), .pointer (some ⟨gc, 0, none⟩), u10, u11, u12, u13, u14, u15, .agg #[.int .i64 x.b, .int .i64 x.d, .int .i64 x.s, .int .i64 x.i], .agg #[.int .i64 y.b, .int .i64 y.d, .int .i64 y.s, .int .i64 y.i], .bool false, .bool false, undef, undef, undef, .bool false, .bool false, undef, undef, undef, undef, .bool false, t 30, t 31, t 32, t 33, t 34, t 35, t 36, t 37, t 38, t 39, t 40, t 41, t 42, t 43, t 44, t 45, t 46, t 47, t 48, t 49, t 50, t 51, t 52, t 53, t 54, t 55, t 56, t 57, t 58, t 59, t 60, t 61, t 62, t 63, t 64, t 65, t 66, t 67, t 68, t 69, t 70, t 71], []⟩ ∧ Stage (planE x y ga gb k1 k2) wn e t g wr) (by kernel_rfl) ?step ?start ?done
      case start => exact ⟨fun _ => false, fun i => if i = 6 then .bool false else undef, fun _ => 0, rfl, rfl, Stage.start _ _ _ _⟩
      case step =>
        rintro l a wr ⟨e, t, g, rfl, rfl, hs⟩ i o ho hi ha
        match i, ho, hi, ha with
        | 0, ho, hi, ha =>
          obtain rfl : _ = o := Option.some.inj ho
          refine wpOp_step (i := 0) rfl (fun K hK => ?_)
          have HK : Shut (∀ a w, _ → K a w) := hK
          clear hK ho
          have HS := Lib.hid hs
          clear hs ha hi
          go_simp
          (with_reducible refine (wakes_any _ (F.out.T.below HS.out.be)).mono ?_)
          rintro e' w' ⟨rfl, m⟩
          go_wp2_with fail
          exact HK.out _ _ ⟨upd e 0 true, upd t 30 _, g, rfl, rfl, by exact (HS.out.grow m.below).vals ok (i := 0) rfl⟩
        | 1, ho, hi, ha =>
          obtain rfl : _ = o := Option.some.inj ho
          have T0 : t 30 = .bool true := hs.val 0 rfl (ha { on := 0, ground := .data } (by simp) rfl)
          have H0 := Lib.hid T0
          refine wpOp_step (i := 1) rfl (fun K hK => ?_)
          have HK : Shut (∀ a w, _ → K a w) := hK
          clear hK ho
          have HS := Lib.hid hs
          clear hs ha hi
          go_simp
          exact HK.out _ _ ⟨upd e 1 true, upd (upd t 30 _) 31 _, g, rfl, rfl, by rw [upd_self H0.out]; exact HS.out.vals ok (i := 1) rfl⟩
        | 2, ho, hi, ha =>
          obtain rfl : _ = o := Option.some.inj ho
          have T1 : t 31 = .bool true := hs.val 1 rfl (ha { on := 1, ground := .guard } (by simp) rfl)
          have H1 := Lib.hid T1
          refine wpOp_step (i := 2) rfl (fun K hK => ?_)
          have HK : Shut (∀ a w, _ → K a w) := hK
          clear hK ho
          obtain ⟨c0, c1, c2, c3, cz⟩ := FA.out.next hs.be
          have HS := Lib.hid hs
          clear hs ha hi
          go_simp
          exact HK.out _ _ ⟨upd e 2 true, upd (upd t 31 _) 32 _, g, rfl, rfl, by rw [upd_self H1.out]; exact HS.out.vals ok (i := 2) rfl⟩
        | 3, ho, hi, ha =>
          obtain rfl : _ = o := Option.some.inj ho
          have T1 : t 31 = .bool true := hs.val 1 rfl (ha { on := 1, ground := .guard } (by simp) rfl)
          have H1 := Lib.hid T1
          refine wpOp_step (i := 3) rfl (fun K hK => ?_)
          have HK : Shut (∀ a w, _ → K a w) := hK
          clear hK ho
          obtain ⟨c0, c1, c2, c3, cz⟩ := FB.out.next hs.be
          have HS := Lib.hid hs
          clear hs ha hi
          go_simp
          exact HK.out _ _ ⟨upd e 3 true, upd (upd t 31 _) 33 _, g, rfl, rfl, by rw [upd_self H1.out]; exact HS.out.vals ok (i := 3) rfl⟩
        | 4, ho, hi, ha =>
          obtain rfl : _ = o := Option.some.inj ho
          have T1 : t 31 = .bool true := hs.val 1 rfl (ha { on := 1, ground := .guard } (by simp) rfl)
          have H1 := Lib.hid T1
          have T2 : t 32 = .agg #[.int .i64 x.b, .int .i64 x.d, .int .i64 x.s, .int .i64 x.i] := hs.val 2 rfl (ha { on := 2, ground := .data } (by simp) rfl)
          have H2 := Lib.hid T2
          have T3 : t 33 = .agg #[.int .i64 y.b, .int .i64 y.d, .int .i64 y.s, .int .i64 y.i] := hs.val 3 rfl (ha { on := 3, ground := .data } (by simp) rfl)
          have H3 := Lib.hid T3
          refine wpOp_step (i := 4) rfl (fun K hK => ?_)
          have HK : Shut (∀ a w, _ → K a w) := hK
          clear hK ho
          have HS := Lib.hid hs
          clear hs ha hi
          go_simp
          rw [ifs_yes hne.out]
          go_simp
          exact HK.out _ _ ⟨upd e 4 true, upd (upd (upd (upd t 31 _) 32 _) 33 _) 34 _, g, rfl, rfl, by rw [upd_self H1.out, upd_self H2.out, upd_self H3.out]; exact HS.out.vals ok (i := 4) rfl⟩
        | 5, ho, hi, ha =>
          obtain rfl : _ = o := Option.some.inj ho
          have T1 : t 31 = .bool true := hs.val 1 rfl (ha { on := 1, ground := .guard } (by simp) rfl)
          have H1 := Lib.hid T1
          refine wpOp_step (i := 5) rfl (fun K hK => ?_)
          have HK : Shut (∀ a w, _ → K a w) := hK
          clear hK ho
          obtain ⟨c0, c1, c2, c3, cz⟩ := FA.out.next hs.be
          have HS := Lib.hid hs
          clear hs ha hi
          go_simp
          exact HK.out _ _ ⟨upd e 5 true, upd (upd t 31 _) 35 _, g, rfl, rfl, by rw [upd_self H1.out]; exact HS.out.vals ok (i := 5) rfl⟩
        | 6, ho, hi, ha =>
          obtain rfl : _ = o := Option.some.inj ho
          have T1 : t 31 = .bool true := hs.val 1 rfl (ha { on := 1, ground := .guard } (by simp) rfl)
          have H1 := Lib.hid T1
          refine wpOp_step (i := 6) rfl (fun K hK => ?_)
          have HK : Shut (∀ a w, _ → K a w) := hK
          clear hK ho
          obtain ⟨c0, c1, c2, c3, cz⟩ := FB.out.next hs.be
          have HS := Lib.hid hs
          clear hs ha hi
          go_simp
          exact HK.out _ _ ⟨upd e 6 true, upd (upd t 31 _) 36 _, g, rfl, rfl, by rw [upd_self H1.out]; exact HS.out.vals ok (i := 6) rfl⟩
        | 7, ho, hi, ha =>
          obtain rfl : _ = o := Option.some.inj ho
          have T1 : t 31 = .bool true := hs.val 1 rfl (ha { on := 1, ground := .guard } (by simp) rfl)
          have H1 := Lib.hid T1
          have T5 : t 35 = .agg #[.int .i64 x.b, .int .i64 x.d, .int .i64 x.s, .int .i64 x.i] := hs.val 5 rfl (ha { on := 5, ground := .data } (by simp) rfl)
          have H5 := Lib.hid T5
          have T6 : t 36 = .agg #[.int .i64 y.b, .int .i64 y.d, .int .i64 y.s, .int .i64 y.i] := hs.val 6 rfl (ha { on := 6, ground := .data } (by simp) rfl)
          have H6 := Lib.hid T6
          refine wpOp_step (i := 7) rfl (fun K hK => ?_)
          have HK : Shut (∀ a w, _ → K a w) := hK
          clear hK ho
          have HS := Lib.hid hs
          clear hs ha hi
          go_simp
          (with_reducible refine (L1 _).mono ?_)
          rintro e' w' ⟨rfl, m⟩
          go_wp2_with fail
          exact HK.out _ _ ⟨upd e 7 true, upd (upd (upd (upd t 31 _) 35 _) 36 _) 37 _, g, rfl, rfl, by rw [upd_self H1.out, upd_self H5.out, upd_self H6.out]; exact (HS.out.grow m.below).vals ok (i := 7) rfl⟩
        | 8, ho, hi, ha =>
          obtain rfl : _ = o := Option.some.inj ho
          have T1 : t 31 = .bool true := hs.val 1 rfl (ha { on := 1, ground := .guard } (by simp) rfl)
          have H1 := Lib.hid T1
          have T7 : t 37 = .bool false := hs.val 7 rfl (ha { on := 7, ground := .data } (by simp) rfl)
          have H7 := Lib.hid T7
          refine wpOp_step (i := 8) rfl (fun K hK => ?_)
          have HK : Shut (∀ a w, _ → K a w) := hK
          clear hK ho
          have HS := Lib.hid hs
          clear hs ha hi
          go_simp
          exact HK.out _ _ ⟨upd e 8 true, upd (upd (upd t 31 _) 37 _) 38 _, g, rfl, rfl, by rw [upd_self H1.out, upd_self H7.out]; exact HS.out.vals ok (i := 8) rfl⟩
        | 9, ho, hi, ha =>
          obtain rfl : _ = o := Option.some.inj ho
          have T1 : t 31 = .bool true := hs.val 1 rfl (ha { on := 1, ground := .guard } (by simp) rfl)
          have H1 := Lib.hid T1
          have T8 : t 38 = .bool true := hs.val 8 rfl (ha { on := 8, ground := .data } (by simp) rfl)
          have H8 := Lib.hid T8
          refine wpOp_step (i := 9) rfl (fun K hK => ?_)
          have HK : Shut (∀ a w, _ → K a w) := hK
          clear hK ho
          have HS := Lib.hid hs
          clear hs ha hi
          go_simp
          exact HK.out _ _ ⟨upd e 9 true, upd (upd (upd t 31 _) 38 _) 39 _, g, rfl, rfl, by rw [upd_self H1.out, upd_self H8.out]; exact HS.out.vals ok (i := 9) rfl⟩
        | 10, ho, hi, ha =>
          obtain rfl : _ = o := Option.some.inj ho
          have T9 : t 39 = .bool true := hs.val 9 rfl (ha { on := 9, ground := .guard } (by simp) rfl)
          have H9 := Lib.hid T9
          refine wpOp_step (i := 10) rfl (fun K hK => ?_)
          have HK : Shut (∀ a w, _ → K a w) := hK
          clear hK ho
          obtain ⟨c0, c1, c2, c3, cz⟩ := FB.out.next hs.be
          have HS := Lib.hid hs
          clear hs ha hi
          go_simp
          exact HK.out _ _ ⟨upd e 10 true, upd (upd t 39 _) 40 _, g, rfl, rfl, by rw [upd_self H9.out]; exact HS.out.vals ok (i := 10) rfl⟩
        | 11, ho, hi, ha =>
          obtain rfl : _ = o := Option.some.inj ho
          have T9 : t 39 = .bool true := hs.val 9 rfl (ha { on := 9, ground := .guard } (by simp) rfl)
          have H9 := Lib.hid T9
          refine wpOp_step (i := 11) rfl (fun K hK => ?_)
          have HK : Shut (∀ a w, _ → K a w) := hK
          clear hK ho
          obtain ⟨c0, c1, c2, c3, cz⟩ := FA.out.next hs.be
          have HS := Lib.hid hs
          clear hs ha hi
          go_simp
          exact HK.out _ _ ⟨upd e 11 true, upd (upd t 39 _) 41 _, g, rfl, rfl, by rw [upd_self H9.out]; exact HS.out.vals ok (i := 11) rfl⟩
        | 12, ho, hi, ha =>
          obtain rfl : _ = o := Option.some.inj ho
          have T9 : t 39 = .bool true := hs.val 9 rfl (ha { on := 9, ground := .guard } (by simp) rfl)
          have H9 := Lib.hid T9
          have T10 : t 40 = .agg #[.int .i64 y.b, .int .i64 y.d, .int .i64 y.s, .int .i64 y.i] := hs.val 10 rfl (ha { on := 10, ground := .data } (by simp) rfl)
          have H10 := Lib.hid T10
          have T11 : t 41 = .agg #[.int .i64 x.b, .int .i64 x.d, .int .i64 x.s, .int .i64 x.i] := hs.val 11 rfl (ha { on := 11, ground := .data } (by simp) rfl)
          have H11 := Lib.hid T11
          refine wpOp_step (i := 12) rfl (fun K hK => ?_)
          have HK : Shut (∀ a w, _ → K a w) := hK
          clear hK ho
          have HS := Lib.hid hs
          clear hs ha hi
          go_simp
          (with_reducible refine (L2 _).mono ?_)
          rintro e' w' ⟨rfl, m⟩
          go_wp2_with fail
          exact HK.out _ _ ⟨upd e 12 true, upd (upd (upd (upd t 39 _) 40 _) 41 _) 42 _, g, rfl, rfl, by rw [upd_self H9.out, upd_self H10.out, upd_self H11.out]; exact (HS.out.grow m.below).vals ok (i := 12) rfl⟩
        | 13, ho, hi, ha =>
          obtain rfl : _ = o := Option.some.inj ho
          have T9 : t 39 = .bool true := hs.val 9 rfl (ha { on := 9, ground := .guard } (by simp) rfl)
          have H9 := Lib.hid T9
          have T12 : t 42 = .bool false := hs.val 12 rfl (ha { on := 12, ground := .data } (by simp) rfl)
          have H12 := Lib.hid T12
          refine wpOp_step (i := 13) rfl (fun K hK => ?_)
          have HK : Shut (∀ a w, _ → K a w) := hK
          clear hK ho
          have HS := Lib.hid hs
          clear hs ha hi
          go_simp
          exact HK.out _ _ ⟨upd e 13 true, upd (upd (upd t 39 _) 42 _) 43 _, g, rfl, rfl, by rw [upd_self H9.out, upd_self H12.out]; exact HS.out.vals ok (i := 13) rfl⟩
        | 14, ho, hi, ha =>
          obtain rfl : _ = o := Option.some.inj ho
          have T1 : t 31 = .bool true := hs.val 1 rfl (ha { on := 1, ground := .guard } (by simp) rfl)
          have H1 := Lib.hid T1
          have T9 : t 39 = .bool true := hs.val 9 rfl (ha { on := 9, ground := .data } (by simp) rfl)
          have H9 := Lib.hid T9
          have T13 : t 43 = .bool true := hs.val 13 rfl (ha { on := 13, ground := .data } (by simp) rfl)
          have H13 := Lib.hid T13
          refine wpOp_step (i := 14) rfl (fun K hK => ?_)
          have HK : Shut (∀ a w, _ → K a w) := hK
          clear hK ho
          have HS := Lib.hid hs
          clear hs ha hi
          go_simp
          exact HK.out _ _ ⟨upd e 14 true, upd (upd (upd (upd t 31 _) 39 _) 43 _) 44 _, g, rfl, rfl, by rw [upd_self H1.out, upd_self H9.out, upd_self H13.out]; exact HS.out.vals ok (i := 14) rfl⟩
        | 15, ho, hi, ha =>
          obtain rfl : _ = o := Option.some.inj ho
          have T1 : t 31 = .bool true := hs.val 1 rfl (ha { on := 1, ground := .guard } (by simp) rfl)
          have H1 := Lib.hid T1
          have T4 : t 34 = .bool true := hs.val 4 rfl (ha { on := 4, ground := .data } (by simp) rfl)
          have H4 := Lib.hid T4
          have T14 : t 44 = .bool true := hs.val 14 rfl (ha { on := 14, ground := .data } (by simp) rfl)
          have H14 := Lib.hid T14
          refine wpOp_step (i := 15) rfl (fun K hK => ?_)
          have HK : Shut (∀ a w, _ → K a w) := hK
          clear hK ho
          have HS := Lib.hid hs
          clear hs ha hi
          go_simp
          exact HK.out _ _ ⟨upd e 15 true, upd (upd (upd (upd t 31 _) 34 _) 44 _) 45 _, g, rfl, rfl, by rw [upd_self H1.out, upd_self H4.out, upd_self H14.out]; exact HS.out.vals ok (i := 15) rfl⟩
        | 16, ho, hi, ha =>
          obtain rfl : _ = o := Option.some.inj ho
          have T1 : t 31 = .bool true := hs.val 1 rfl (ha { on := 1, ground := .data } (by simp) rfl)
          have H1 := Lib.hid T1
          have T15 : t 45 = .bool true := hs.val 15 rfl (ha { on := 15, ground := .data } (by simp) rfl)
          have H15 := Lib.hid T15
          refine wpOp_step (i := 16) rfl (fun K hK => ?_)
          have HK : Shut (∀ a w, _ → K a w) := hK
          clear hK ho
          have HS := Lib.hid hs
          clear hs ha hi
          go_simp
          exact HK.out _ _ ⟨upd e 16 true, upd (upd (upd t 31 _) 45 _) 46 _, g, rfl, rfl, by rw [upd_self H1.out, upd_self H15.out]; exact HS.out.vals ok (i := 16) rfl⟩
        | 17, ho, hi, ha =>
          obtain rfl : _ = o := Option.some.inj ho
          have T16 : t 46 = .bool true := hs.val 16 rfl (ha { on := 16, ground := .data } (by simp) rfl)
          have H16 := Lib.hid T16
          refine wpOp_step (i := 17) rfl (fun K hK => ?_)
          have HK : Shut (∀ a w, _ → K a w) := hK
          clear hK ho
          have HS := Lib.hid hs
          clear hs ha hi
          go_simp
          exact HK.out _ _ ⟨upd e 17 true, upd (upd t 46 _) 47 _, g, rfl, rfl, by rw [upd_self H16.out]; exact HS.out.vals ok (i := 17) rfl⟩
        | 18, ho, hi, ha =>
          obtain rfl : _ = o := Option.some.inj ho
          have T17 : t 47 = .bool true := hs.val 17 rfl (ha { on := 17, ground := .guard } (by simp) rfl)
          have H17 := Lib.hid T17
          refine wpOp_step (i := 18) rfl (fun K hK => ?_)
          have HK : Shut (∀ a w, _ → K a w) := hK
          clear hK ho
          obtain ⟨c0, c1, c2, c3, cz⟩ := FA.out.next hs.be
          have HS := Lib.hid hs
          clear hs ha hi
          go_simp
          exact HK.out _ _ ⟨upd e 18 true, upd (upd t 47 _) 48 _, g, rfl, rfl, by rw [upd_self H17.out]; exact HS.out.vals ok (i := 18) rfl⟩
        | 19, ho, hi, ha =>
          obtain rfl : _ = o := Option.some.inj ho
          have T17 : t 47 = .bool true := hs.val 17 rfl (ha { on := 17, ground := .guard } (by simp) rfl)
          have H17 := Lib.hid T17
          refine wpOp_step (i := 19) rfl (fun K hK => ?_)
          have HK : Shut (∀ a w, _ → K a w) := hK
          clear hK ho
          obtain ⟨c0, c1, c2, c3, cz⟩ := FB.out.next hs.be
          have HS := Lib.hid hs
          clear hs ha hi
          go_simp
          exact HK.out _ _ ⟨upd e 19 true, upd (upd t 47 _) 49 _, g, rfl, rfl, by rw [upd_self H17.out]; exact HS.out.vals ok (i := 19) rfl⟩
        | 20, ho, hi, ha =>
          obtain rfl : _ = o := Option.some.inj ho
          have T17 : t 47 = .bool true := hs.val 17 rfl (ha { on := 17, ground := .guard } (by simp) rfl)
          have H17 := Lib.hid T17
          have T18 : t 48 = .agg #[.int .i64 x.b, .int .i64 x.d, .int .i64 x.s, .int .i64 x.i] := hs.val 18 rfl (ha { on := 18, ground := .data } (by simp) rfl)
          have H18 := Lib.hid T18
          have T19 : t 49 = .agg #[.int .i64 y.b, .int .i64 y.d, .int .i64 y.s, .int .i64 y.i] := hs.val 19 rfl (ha { on := 19, ground := .data } (by simp) rfl)
          have H19 := Lib.hid T19
          refine wpOp_step (i := 20) rfl (fun K hK => ?_)
          have HK : Shut (∀ a w, _ → K a w) := hK
          clear hK ho
          have HS := Lib.hid hs
          clear hs ha hi
          go_simp
          (with_reducible refine (L1 _).mono ?_)
          rintro e' w' ⟨rfl, m⟩
          go_wp2_with fail
          exact HK.out _ _ ⟨upd e 20 true, upd (upd (upd (upd t 47 _) 48 _) 49 _) 50 _, g, rfl, rfl, by rw [upd_self H17.out, upd_self H18.out, upd_self H19.out]; exact (HS.out.grow m.below).vals ok (i := 20) rfl⟩
        | 21, ho, hi, ha =>
          obtain rfl : _ = o := Option.some.inj ho
          have T17 : t 47 = .bool true := hs.val 17 rfl (ha { on := 17, ground := .guard } (by simp) rfl)
          have H17 := Lib.hid T17
          have T20 : t 50 = .bool false := hs.val 20 rfl (ha { on := 20, ground := .data } (by simp) rfl)
          have H20 := Lib.hid T20
          refine wpOp_step (i := 21) rfl (fun K hK => ?_)
          have HK : Shut (∀ a w, _ → K a w) := hK
          clear hK ho
          have HS := Lib.hid hs
          clear hs ha hi
          go_simp
          exact HK.out _ _ ⟨upd e 21 true, upd (upd (upd t 47 _) 50 _) 51 _, g, rfl, rfl, by rw [upd_self H17.out, upd_self H20.out]; exact HS.out.vals ok (i := 21) rfl⟩
        | 22, ho, hi, ha =>
          obtain rfl : _ = o := Option.some.inj ho
          have T21 : t 51 = .bool false := hs.val 21 rfl (ha { on := 21, ground := .guard } (by simp) rfl)
          have H21 := Lib.hid T21
          refine wpOp_step (i := 22) rfl (fun K hK => ?_)
          have HK : Shut (∀ a w, _ → K a w) := hK
          clear hK ho
          have HS := Lib.hid hs
          clear hs ha hi
          go_simp
          exact HK.out _ _ ⟨upd e 22 true, upd (upd t 51 _) 52 _, g, rfl, rfl, by rw [upd_self H21.out]; exact HS.out.vals ok (i := 22) rfl⟩
        | 23, ho, hi, ha =>
          obtain rfl : _ = o := Option.some.inj ho
          have T21 : t 51 = .bool false := hs.val 21 rfl (ha { on := 21, ground := .guard } (by simp) rfl)
          have H21 := Lib.hid T21
          refine wpOp_step (i := 23) rfl (fun K hK => ?_)
          have HK : Shut (∀ a w, _ → K a w) := hK
          clear hK ho
          have HS := Lib.hid hs
          clear hs ha hi
          go_simp
          exact HK.out _ _ ⟨upd e 23 true, upd (upd t 51 _) 53 _, g, rfl, rfl, by rw [upd_self H21.out]; exact HS.out.vals ok (i := 23) rfl⟩
        | 24, ho, hi, ha =>
          obtain rfl : _ = o := Option.some.inj ho
          have T21 : t 51 = .bool false := hs.val 21 rfl (ha { on := 21, ground := .guard } (by simp) rfl)
          have H21 := Lib.hid T21
          refine wpOp_step (i := 24) rfl (fun K hK => ?_)
          have HK : Shut (∀ a w, _ → K a w) := hK
          clear hK ho
          have HS := Lib.hid hs
          clear hs ha hi
          go_simp
          exact HK.out _ _ ⟨upd e 24 true, upd (upd t 51 _) 54 _, g, rfl, rfl, by rw [upd_self H21.out]; exact HS.out.vals ok (i := 24) rfl⟩
        | 25, ho, hi, ha =>
          obtain rfl : _ = o := Option.some.inj ho
          have T17 : t 47 = .bool true := hs.val 17 rfl (ha { on := 17, ground := .guard } (by simp) rfl)
          have H17 := Lib.hid T17
          have T21 : t 51 = .bool false := hs.val 21 rfl (ha { on := 21, ground := .data } (by simp) rfl)
          have H21 := Lib.hid T21
          refine wpOp_step (i := 25) rfl (fun K hK => ?_)
          have HK : Shut (∀ a w, _ → K a w) := hK
          clear hK ho
          have HS := Lib.hid hs
          clear hs ha hi
          go_simp
          exact HK.out _ _ ⟨upd e 25 true, upd (upd (upd t 47 _) 51 _) 55 _, g, rfl, rfl, by rw [upd_self H17.out, upd_self H21.out]; exact HS.out.vals ok (i := 25) rfl⟩
        | 26, ho, hi, ha =>
          obtain rfl : _ = o := Option.some.inj ho
          have T17 : t 47 = .bool true := hs.val 17 rfl (ha { on := 17, ground := .guard } (by simp) rfl)
          have H17 := Lib.hid T17
          have T25 : t 55 = .bool false := hs.val 25 rfl (ha { on := 25, ground := .data } (by simp) rfl)
          have H25 := Lib.hid T25
          refine wpOp_step (i := 26) rfl (fun K hK => ?_)
          have HK : Shut (∀ a w, _ → K a w) := hK
          clear hK ho
          have HS := Lib.hid hs
          clear hs ha hi
          go_simp
          exact HK.out _ _ ⟨upd e 26 true, upd (upd (upd t 47 _) 55 _) 56 _, g, rfl, rfl, by rw [upd_self H17.out, upd_self H25.out]; exact HS.out.vals ok (i := 26) rfl⟩
        | 27, ho, hi, ha =>
          obtain rfl : _ = o := Option.some.inj ho
          have T17 : t 47 = .bool true := hs.val 17 rfl (ha { on := 17, ground := .data } (by simp) rfl)
          have H17 := Lib.hid T17
          have T26 : t 56 = .bool true := hs.val 26 rfl (ha { on := 26, ground := .data } (by simp) rfl)
          have H26 := Lib.hid T26
          refine wpOp_step (i := 27) rfl (fun K hK => ?_)
          have HK : Shut (∀ a w, _ → K a w) := hK
          clear hK ho
          have HS := Lib.hid hs
          clear hs ha hi
          go_simp
          exact HK.out _ _ ⟨upd e 27 true, upd (upd (upd t 47 _) 56 _) 57 _, g, rfl, rfl, by rw [upd_self H17.out, upd_self H26.out]; exact HS.out.vals ok (i := 27) rfl⟩
        | 28, ho, hi, ha =>
          obtain rfl : _ = o := Option.some.inj ho
          have T27 : t 57 = .bool true := hs.val 27 rfl (ha { on := 27, ground := .data } (by simp) rfl)
          have H27 := Lib.hid T27
          refine wpOp_step (i := 28) rfl (fun K hK => ?_)
          have HK : Shut (∀ a w, _ → K a w) := hK
          clear hK ho
          have HS := Lib.hid hs
          clear hs ha hi
          go_simp
          exact HK.out _ _ ⟨upd e 28 true, upd (upd t 57 _) 58 _, g, rfl, rfl, by rw [upd_self H27.out]; exact HS.out.vals ok (i := 28) rfl⟩
        | 29, ho, hi, ha =>
          obtain rfl : _ = o := Option.some.inj ho
          have T28 : t 58 = .bool true := hs.val 28 rfl (ha { on := 28, ground := .guard } (by simp) rfl)
          have H28 := Lib.hid T28
          refine wpOp_step (i := 29) rfl (fun K hK => ?_)
          have HK : Shut (∀ a w, _ → K a w) := hK
          clear hK ho
          have HS := Lib.hid hs
          clear hs ha hi
          go_simp
          exact HK.out _ _ ⟨upd e 29 true, upd (upd t 58 _) 59 _, g, rfl, rfl, by rw [upd_self H28.out]; exact HS.out.vals ok (i := 29) rfl⟩
        | 30, ho, hi, ha =>
          obtain rfl : _ = o := Option.some.inj ho
          have T28 : t 58 = .bool true := hs.val 28 rfl (ha { on := 28, ground := .guard } (by simp) rfl)
          have H28 := Lib.hid T28
          have T29 : t 59 = .pointer (some ⟨ga, 0, none⟩) := hs.val 29 rfl (ha { on := 29, ground := .data } (by simp) rfl)
          have H29 := Lib.hid T29
          refine wpOp_step (i := 30) rfl (fun K hK => ?_)
          have HK : Shut (∀ a w, _ → K a w) := hK
          clear hK ho
          obtain ⟨c0, c1, c2, c3, cz⟩ := FA.out.next hs.be
          have HS := Lib.hid hs
          clear hs ha hi
          go_simp
          exact HK.out _ _ ⟨upd e 30 true, upd (upd (upd t 58 _) 59 _) 60 _, g, rfl, rfl, by rw [upd_self H28.out, upd_self H29.out]; exact HS.out.vals ok (i := 30) rfl⟩
        | 31, ho, hi, ha =>
          obtain rfl : _ = o := Option.some.inj ho
          have T28 : t 58 = .bool true := hs.val 28 rfl (ha { on := 28, ground := .guard } (by simp) rfl)
          have H28 := Lib.hid T28
          refine wpOp_step (i := 31) rfl (fun K hK => ?_)
          have HK : Shut (∀ a w, _ → K a w) := hK
          clear hK ho
          have HS := Lib.hid hs
          clear hs ha hi
          go_simp
          exact HK.out _ _ ⟨upd e 31 true, upd (upd t 58 _) 61 _, g, rfl, rfl, by rw [upd_self H28.out]; exact HS.out.vals ok (i := 31) rfl⟩
        | 32, ho, hi, ha =>
          obtain rfl : _ = o := Option.some.inj ho
          have T28 : t 58 = .bool true := hs.val 28 rfl (ha { on := 28, ground := .guard } (by simp) rfl)
          have H28 := Lib.hid T28
          have T31 : t 61 = .pointer (some ⟨gb, 0, none⟩) := hs.val 31 rfl (ha { on := 31, ground := .data } (by simp) rfl)
          have H31 := Lib.hid T31
          refine wpOp_step (i := 32) rfl (fun K hK => ?_)
          have HK : Shut (∀ a w, _ → K a w) := hK
          clear hK ho
          obtain ⟨c0, c1, c2, c3, cz⟩ := FB.out.next hs.be
          have HS := Lib.hid hs
          clear hs ha hi
          go_simp
          exact HK.out _ _ ⟨upd e 32 true, upd (upd (upd t 58 _) 61 _) 62 _, g, rfl, rfl, by rw [upd_self H28.out, upd_self H31.out]; exact HS.out.vals ok (i := 32) rfl⟩
        | 33, ho, hi, ha =>
          obtain rfl : _ = o := Option.some.inj ho
          have T28 : t 58 = .bool true := hs.val 28 rfl (ha { on := 28, ground := .guard } (by simp) rfl)
          have H28 := Lib.hid T28
          have T30 : t 60 = .agg #[.int .i64 x.b, .int .i64 x.d, .int .i64 x.s] := hs.val 30 rfl (ha { on := 30, ground := .data } (by simp) rfl)
          have H30 := Lib.hid T30
          have T32 : t 62 = .agg #[.int .i64 y.b, .int .i64 y.d, .int .i64 y.s] := hs.val 32 rfl (ha { on := 32, ground := .data } (by simp) rfl)
          have H32 := Lib.hid T32
          refine wpOp_step (i := 33) rfl (fun K hK => ?_)
          have HK : Shut (∀ a w, _ → K a w) := hK
          clear hK ho
          have HS := Lib.hid hs
          clear hs ha hi
          go_simp
          (with_reducible refine (C1 _).mono ?_)
          rintro e' w' ⟨rfl, m⟩
          go_wp2_with fail
          exact HK.out _ _ ⟨upd e 33 true, upd (upd (upd (upd t 58 _) 60 _) 62 _) 63 _, g, rfl, rfl, by rw [upd_self H28.out, upd_self H30.out, upd_self H32.out]; exact (HS.out.grow m.below).vals ok (i := 33) rfl⟩
        | 34, ho, hi, ha =>
          obtain rfl : _ = o := Option.some.inj ho
          have T28 : t 58 = .bool true := hs.val 28 rfl (ha { on := 28, ground := .guard } (by simp) rfl)
          have H28 := Lib.hid T28
          refine wpOp_step (i := 34) rfl (fun K hK => ?_)
          have HK : Shut (∀ a w, _ → K a w) := hK
          clear hK ho
          have HS := Lib.hid hs
          clear hs ha hi
          go_simp
          exact HK.out _ _ ⟨upd e 34 true, upd (upd t 58 _) 64 _, g, rfl, rfl, by rw [upd_self H28.out]; exact HS.out.vals ok (i := 34) rfl⟩
        | 35, ho, hi, ha =>
          obtain rfl : _ = o := Option.some.inj ho
          have T28 : t 58 = .bool true := hs.val 28 rfl (ha { on := 28, ground := .guard } (by simp) rfl)
          have H28 := Lib.hid T28
          have T34 : t 64 = .pointer (some ⟨gb, 0, none⟩) := hs.val 34 rfl (ha { on := 34, ground := .data } (by simp) rfl)
          have H34 := Lib.hid T34
          refine wpOp_step (i := 35) rfl (fun K hK => ?_)
          have HK : Shut (∀ a w, _ → K a w) := hK
          clear hK ho
          obtain ⟨c0, c1, c2, c3, cz⟩ := FB.out.next hs.be
          have HS := Lib.hid hs
          clear hs ha hi
          go_simp
          exact HK.out _ _ ⟨upd e 35 true, upd (upd (upd t 58 _) 64 _) 65 _, g, rfl, rfl, by rw [upd_self H28.out, upd_self H34.out]; exact HS.out.vals ok (i := 35) rfl⟩
        | 36, ho, hi, ha =>
          obtain rfl : _ = o := Option.some.inj ho
          have T28 : t 58 = .bool true := hs.val 28 rfl (ha { on := 28, ground := .guard } (by simp) rfl)
          have H28 := Lib.hid T28
          refine wpOp_step (i := 36) rfl (fun K hK => ?_)
          have HK : Shut (∀ a w, _ → K a w) := hK
          clear hK ho
          have HS := Lib.hid hs
          clear hs ha hi
          go_simp
          exact HK.out _ _ ⟨upd e 36 true, upd (upd t 58 _) 66 _, g, rfl, rfl, by rw [upd_self H28.out]; exact HS.out.vals ok (i := 36) rfl⟩
        | 37, ho, hi, ha =>
          obtain rfl : _ = o := Option.some.inj ho
          have T28 : t 58 = .bool true := hs.val 28 rfl (ha { on := 28, ground := .guard } (by simp) rfl)
          have H28 := Lib.hid T28
          have T36 : t 66 = .pointer (some ⟨ga, 0, none⟩) := hs.val 36 rfl (ha { on := 36, ground := .data } (by simp) rfl)
          have H36 := Lib.hid T36
          refine wpOp_step (i := 37) rfl (fun K hK => ?_)
          have HK : Shut (∀ a w, _ → K a w) := hK
          clear hK ho
          obtain ⟨c0, c1, c2, c3, cz⟩ := FA.out.next hs.be
          have HS := Lib.hid hs
          clear hs ha hi
          go_simp
          exact HK.out _ _ ⟨upd e 37 true, upd (upd (upd t 58 _) 66 _) 67 _, g, rfl, rfl, by rw [upd_self H28.out, upd_self H36.out]; exact HS.out.vals ok (i := 37) rfl⟩
        | 38, ho, hi, ha =>
          obtain rfl : _ = o := Option.some.inj ho
          have T28 : t 58 = .bool true := hs.val 28 rfl (ha { on := 28, ground := .guard } (by simp) rfl)
          have H28 := Lib.hid T28
          have T35 : t 65 = .agg #[.int .i64 y.b, .int .i64 y.d, .int .i64 y.s] := hs.val 35 rfl (ha { on := 35, ground := .data } (by simp) rfl)
          have H35 := Lib.hid T35
          have T37 : t 67 = .agg #[.int .i64 x.b, .int .i64 x.d, .int .i64 x.s] := hs.val 37 rfl (ha { on := 37, ground := .data } (by simp) rfl)
          have H37 := Lib.hid T37
          refine wpOp_step (i := 38) rfl (fun K hK => ?_)
          have HK : Shut (∀ a w, _ → K a w) := hK
          clear hK ho
          have HS := Lib.hid hs
          clear hs ha hi
          go_simp
          (with_reducible refine (C2 _).mono ?_)
          rintro e' w' ⟨rfl, m⟩
          go_wp2_with fail
          exact HK.out _ _ ⟨upd e 38 true, upd (upd (upd (upd t 58 _) 65 _) 67 _) 68 _, g, rfl, rfl, by rw [upd_self H28.out, upd_self H35.out, upd_self H37.out]; exact (HS.out.grow m.below).vals ok (i := 38) rfl⟩
        | 39, ho, hi, ha =>
          obtain rfl : _ = o := Option.some.inj ho
          have T28 : t 58 = .bool true := hs.val 28 rfl (ha { on := 28, ground := .guard } (by simp) rfl)
          have H28 := Lib.hid T28
          have T38 : t 68 = .int .i64 k2 := hs.val 38 rfl (ha { on := 38, ground := .data } (by simp) rfl)
          have H38 := Lib.hid T38
          have ng := neg.out
          refine wpOp_step (i := 39) rfl (fun K hK => ?_)
          have HK : Shut (∀ a w, _ → K a w) := hK
          clear hK ho
          have HS := Lib.hid hs
          clear hs ha hi
          go_simp
          exact HK.out _ _ ⟨upd e 39 true, upd (upd (upd t 58 _) 68 _) 69 _, g, rfl, rfl, by rw [upd_self H28.out, upd_self H38.out]; exact HS.out.vals ok (i := 39) rfl⟩
        | 40, ho, hi, ha =>
          obtain rfl : _ = o := Option.some.inj ho
          have T28 : t 58 = .bool true := hs.val 28 rfl (ha { on := 28, ground := .guard } (by simp) rfl)
          have H28 := Lib.hid T28
          have T33 : t 63 = .int .i64 k1 := hs.val 33 rfl (ha { on := 33, ground := .data } (by simp) rfl)
          have H33 := Lib.hid T33
          have T39 : t 69 = .int .i64 k1 := hs.val 39 rfl (ha { on := 39, ground := .data } (by simp) rfl)
          have H39 := Lib.hid T39
          refine wpOp_step (i := 40) rfl (fun K hK => ?_)
          have HK : Shut (∀ a w, _ → K a w) := hK
          clear hK ho
          have HS := Lib.hid hs
          clear hs ha hi
          go_simp
          exact HK.out _ _ ⟨upd e 40 true, upd (upd (upd (upd t 58 _) 63 _) 69 _) 70 _, g, rfl, rfl, by rw [upd_self H28.out, upd_self H33.out, upd_self H39.out]; exact HS.out.vals ok (i := 40) rfl⟩
        | 41, ho, hi, ha =>
          obtain rfl : _ = o := Option.some.inj ho
          have T28 : t 58 = .bool true := hs.val 28 rfl (ha { on := 28, ground := .data } (by simp) rfl)
          have H28 := Lib.hid T28
          have T40 : t 70 = .bool true := hs.val 40 rfl (ha { on := 40, ground := .data } (by simp) rfl)
          have H40 := Lib.hid T40
          refine wpOp_step (i := 41) rfl (fun K hK => ?_)
          have HK : Shut (∀ a w, _ → K a w) := hK
          clear hK ho
          have HS := Lib.hid hs
          clear hs ha hi
          go_simp
          exact HK.out _ _ ⟨upd e 41 true, upd (upd (upd t 58 _) 70 _) 71 _, g, rfl, rfl, by rw [upd_self H28.out, upd_self H40.out]; exact HS.out.vals ok (i := 41) rfl⟩
        | 42, ho, hi, ha =>
          obtain rfl : _ = o := Option.some.inj ho
          have T41 : t 71 = .bool true := hs.val 41 rfl (ha { on := 41, ground := .data } (by simp) rfl)
          have H41 := Lib.hid T41
          refine wpOp_step (i := 42) rfl (fun K hK => ?_)
          have HK : Shut (∀ a w, _ → K a w) := hK
          clear hK ho
          have HS := Lib.hid hs
          clear hs ha hi
          go_simp
          exact HK.out _ _ ⟨upd e 42 true, upd (upd t 71 _) 6 _, g, rfl, rfl, by rw [upd_self H41.out]; exact HS.out.vals ok (i := 42) rfl⟩
        | k + 43, ho, hi, ha => simp at ho
      case done =>
        rintro l a wr ⟨e, t, g, rfl, rfl, hs⟩ hr
        have hd := ready_done hr rfl (by decide +kernel)
        have e42 : e 42 = true := hd 42 (by decide)
        have v6 : t 6 = .bool true := hs.val 42 rfl e42
        have BE := F.out.be.trans (hs.be.mono F.out.be.size)
        rw [v6]
        clear hs hd hr e42 v6 F FA FB
        go_wp2
        go_ret
        exact ⟨rfl, BE⟩
    · rw [h1] at L1
      rw [h2] at L2
      clear h1 h2 KEY L3 L4
      obtain ⟨⟨a0, a1, a2, a3, az⟩, ⟨b0, b1, b2, b3, bz⟩, ⟨c0, c1, c2, c3, cz⟩, _, _⟩ := F.out
      go_wp2_with fail
      with_reducible refine (L1 _).mono ?_
      rintro e wn ⟨rfl, m⟩
      have F := Lib.hid (F.out.next m.below)
      clear m a0 a1 a2 a3 az b0 b1 b2 b3 bz c0 c1 c2 c3 cz
      obtain ⟨⟨a0, a1, a2, a3, az⟩, ⟨b0, b1, b2, b3, bz⟩, ⟨c0, c1, c2, c3, cz⟩, _, _⟩ := F.out
      go_wp2
      clear a0 a1 a2 a3 az b0 b1 b2 b3 bz c0 c1 c2 c3 cz
      have FA := Lib.hid F.out.A
      have FB := Lib.hid F.out.B
      have ok : (planG x y ga gb k1 k2).ok = true := rfl
      refine region_inv (Inv := fun l a wr => ∃ (e : Nat → Bool) (t : Nat → Value) (g : Nat → Nat), l = #[e 0, e 1, e 2, e 3, e 4, e 5, e 6, e 7, e 8, e 9, e 10, e 11, e 12, e 13, e 14, e 15, e 16, e 17, e 18, e 19, e 20, e 21, e 22, e 23, e 24, e 25, e 26, e 27, e 28, e 29, e 30, e 31, e 32, e 33, e 34, e 35, e 36, e 37, e 38, e 39, e 40, e 41, e 42] ∧ a = ⟨#[.agg #[.int .i64 x.b, .int .i64 x.d, .int .i64 x.s, .int .i64 x.i], .agg #[.int .i64 y.b, .int .i64 y.d, .int .i64 y.s, .int .i64 y.i], .agg #[.int .i64 z.b, .int .i64 z.d, .int .i64 z.s, .int .i64 z.i], .pointer (some ⟨w.heap.size, 0, none⟩), .pointer (some ⟨w.heap.size + 1, 0, none⟩), .pointer (some ⟨w.heap.size + 1 + 1, 0, none⟩), t 6, .pointer (some ⟨ga, 0, none⟩), .pointer (some ⟨gb, 0, none⟩), .pointer (some ⟨gc, 0, none⟩), u10, u11, u12, u13, u14, u15, .agg #[.int .i64 x.b, .int .i64 x.d, .int .i64 x.s, .int .i64 x.i], .agg #[.int .i64 y.b, .int .i64 y.d, .int .i64 y.s, .int .i64 y.i], .bool false, .bool false, undef, undef, undef, .bool false, .bool false, undef, undef, undef, undef, .bool false, t 30, t 31, t 32, t 33, t 34, t 35, t 36, t 37, t 38, t 39, t 40, t 41, t 42, t 43, t 44, t 45, t 46, t 47, t 48, t 49, t 50, t 51, t 52, t 53, t 54, t 55, t 56, t 57, t 58, t 59, t 60, t 61, t 62, t 63, t 64, t 65, t 66, t 67, t 68, t 69, t 70, t 71], []⟩ ∧ Stage (planG x y ga gb k1 k2) wn e t g wr) (by kernel_rfl) ?step ?start ?done
      case start => exact ⟨fun _ => false, fun i => if i = 6 then .bool false else undef, fun _ => 0, rfl, rfl, Stage.start _ _ _ _⟩
      case step =>
        rintro l a wr ⟨e, t, g, rfl, rfl, hs⟩ i o ho hi ha
        match i, ho, hi, ha with
        | 0, ho, hi, ha =>
          obtain rfl : _ = o := Option.some.inj ho
          refine wpOp_step (i := 0) rfl (fun K hK => ?_)
          have HK : Shut (∀ a w, _ → K a w) := hK
          clear hK ho
          have HS := Lib.hid hs
          clear hs ha hi
          go_simp
          (with_reducible refine (wakes_any _ (F.out.T.below HS.out.be)).mono ?_)
          rintro e' w' ⟨rfl, m⟩
          go_wp2_with fail
          exact HK.out _ _ ⟨upd e 0 true, upd t 30 _, g, rfl, rfl, by exact (HS.out.grow m.below).vals ok (i := 0) rfl⟩
        | 1, ho, hi, ha =>
          obtain rfl : _ = o := Option.some.inj ho
          have T0 : t 30 = .bool true := hs.val 0 rfl (ha { on := 0, ground := .data } (by simp) rfl)
          have H0 := Lib.hid T0
          refine wpOp_step (i := 1) rfl (fun K hK => ?_)
          have HK : Shut (∀ a w, _ → K a w) := hK
          clear hK ho
          have HS := Lib.hid hs
          clear hs ha hi
          go_simp
          exact HK.out _ _ ⟨upd e 1 true, upd (upd t 30 _) 31 _, g, rfl, rfl, by rw [upd_self H0.out]; exact HS.out.vals ok (i := 1) rfl⟩
        | 2, ho, hi, ha =>
          obtain rfl : _ = o := Option.some.inj ho
          have T1 : t 31 = .bool true := hs.val 1 rfl (ha { on := 1, ground := .guard } (by simp) rfl)
          have H1 := Lib.hid T1
          refine wpOp_step (i := 2) rfl (fun K hK => ?_)
          have HK : Shut (∀ a w, _ → K a w) := hK
          clear hK ho
          obtain ⟨c0, c1, c2, c3, cz⟩ := FA.out.next hs.be
          have HS := Lib.hid hs
          clear hs ha hi
          go_simp
          exact HK.out _ _ ⟨upd e 2 true, upd (upd t 31 _) 32 _, g, rfl, rfl, by rw [upd_self H1.out]; exact HS.out.vals ok (i := 2) rfl⟩
        | 3, ho, hi, ha =>
          obtain rfl : _ = o := Option.some.inj ho
          have T1 : t 31 = .bool true := hs.val 1 rfl (ha { on := 1, ground := .guard } (by simp) rfl)
          have H1 := Lib.hid T1
          refine wpOp_step (i := 3) rfl (fun K hK => ?_)
          have HK : Shut (∀ a w, _ → K a w) := hK
          clear hK ho
          obtain ⟨c0, c1, c2, c3, cz⟩ := FB.out.next hs.be
          have HS := Lib.hid hs
          clear hs ha hi
          go_simp
          exact HK.out _ _ ⟨upd e 3 true, upd (upd t 31 _) 33 _, g, rfl, rfl, by rw [upd_self H1.out]; exact HS.out.vals ok (i := 3) rfl⟩
        | 4, ho, hi, ha =>
          obtain rfl : _ = o := Option.some.inj ho
          have T1 : t 31 = .bool true := hs.val 1 rfl (ha { on := 1, ground := .guard } (by simp) rfl)
          have H1 := Lib.hid T1
          have T2 : t 32 = .agg #[.int .i64 x.b, .int .i64 x.d, .int .i64 x.s, .int .i64 x.i] := hs.val 2 rfl (ha { on := 2, ground := .data } (by simp) rfl)
          have H2 := Lib.hid T2
          have T3 : t 33 = .agg #[.int .i64 y.b, .int .i64 y.d, .int .i64 y.s, .int .i64 y.i] := hs.val 3 rfl (ha { on := 3, ground := .data } (by simp) rfl)
          have H3 := Lib.hid T3
          refine wpOp_step (i := 4) rfl (fun K hK => ?_)
          have HK : Shut (∀ a w, _ → K a w) := hK
          clear hK ho
          have HS := Lib.hid hs
          clear hs ha hi
          go_simp
          rw [ifs_no hne.out]
          go_simp
          exact HK.out _ _ ⟨upd e 4 true, upd (upd (upd (upd t 31 _) 32 _) 33 _) 34 _, g, rfl, rfl, by rw [upd_self H1.out, upd_self H2.out, upd_self H3.out]; exact HS.out.vals ok (i := 4) rfl⟩
        | 5, ho, hi, ha =>
          obtain rfl : _ = o := Option.some.inj ho
          have T1 : t 31 = .bool true := hs.val 1 rfl (ha { on := 1, ground := .guard } (by simp) rfl)
          have H1 := Lib.hid T1
          refine wpOp_step (i := 5) rfl (fun K hK => ?_)
          have HK : Shut (∀ a w, _ → K a w) := hK
          clear hK ho
          obtain ⟨c0, c1, c2, c3, cz⟩ := FA.out.next hs.be
          have HS := Lib.hid hs
          clear hs ha hi
          go_simp
          exact HK.out _ _ ⟨upd e 5 true, upd (upd t 31 _) 35 _, g, rfl, rfl, by rw [upd_self H1.out]; exact HS.out.vals ok (i := 5) rfl⟩
        | 6, ho, hi, ha =>
          obtain rfl : _ = o := Option.some.inj ho
          have T1 : t 31 = .bool true := hs.val 1 rfl (ha { on := 1, ground := .guard } (by simp) rfl)
          have H1 := Lib.hid T1
          refine wpOp_step (i := 6) rfl (fun K hK => ?_)
          have HK : Shut (∀ a w, _ → K a w) := hK
          clear hK ho
          obtain ⟨c0, c1, c2, c3, cz⟩ := FB.out.next hs.be
          have HS := Lib.hid hs
          clear hs ha hi
          go_simp
          exact HK.out _ _ ⟨upd e 6 true, upd (upd t 31 _) 36 _, g, rfl, rfl, by rw [upd_self H1.out]; exact HS.out.vals ok (i := 6) rfl⟩
        | 7, ho, hi, ha =>
          obtain rfl : _ = o := Option.some.inj ho
          have T1 : t 31 = .bool true := hs.val 1 rfl (ha { on := 1, ground := .guard } (by simp) rfl)
          have H1 := Lib.hid T1
          have T5 : t 35 = .agg #[.int .i64 x.b, .int .i64 x.d, .int .i64 x.s, .int .i64 x.i] := hs.val 5 rfl (ha { on := 5, ground := .data } (by simp) rfl)
          have H5 := Lib.hid T5
          have T6 : t 36 = .agg #[.int .i64 y.b, .int .i64 y.d, .int .i64 y.s, .int .i64 y.i] := hs.val 6 rfl (ha { on := 6, ground := .data } (by simp) rfl)
          have H6 := Lib.hid T6
          refine wpOp_step (i := 7) rfl (fun K hK => ?_)
          have HK : Shut (∀ a w, _ → K a w) := hK
          clear hK ho
          have HS := Lib.hid hs
          clear hs ha hi
          go_simp
          (with_reducible refine (L1 _).mono ?_)
          rintro e' w' ⟨rfl, m⟩
          go_wp2_with fail
          exact HK.out _ _ ⟨upd e 7 true, upd (upd (upd (upd t 31 _) 35 _) 36 _) 37 _, g, rfl, rfl, by rw [upd_self H1.out, upd_self H5.out, upd_self H6.out]; exact (HS.out.grow m.below).vals ok (i := 7) rfl⟩
        | 8, ho, hi, ha =>
          obtain rfl : _ = o := Option.some.inj ho
          have T1 : t 31 = .bool true := hs.val 1 rfl (ha { on := 1, ground := .guard } (by simp) rfl)
          have H1 := Lib.hid T1
          have T7 : t 37 = .bool false := hs.val 7 rfl (ha { on := 7, ground := .data } (by simp) rfl)
          have H7 := Lib.hid T7
          refine wpOp_step (i := 8) rfl (fun K hK => ?_)
          have HK : Shut (∀ a w, _ → K a w) := hK
          clear hK ho
          have HS := Lib.hid hs
          clear hs ha hi
          go_simp
          exact HK.out _ _ ⟨upd e 8 true, upd (upd (upd t 31 _) 37 _) 38 _, g, rfl, rfl, by rw [upd_self H1.out, upd_self H7.out]; exact HS.out.vals ok (i := 8) rfl⟩
        | 9, ho, hi, ha =>
          obtain rfl : _ = o := Option.some.inj ho
          have T1 : t 31 = .bool true := hs.val 1 rfl (ha { on := 1, ground := .guard } (by simp) rfl)
          have H1 := Lib.hid T1
          have T8 : t 38 = .bool true := hs.val 8 rfl (ha { on := 8, ground := .data } (by simp) rfl)
          have H8 := Lib.hid T8
          refine wpOp_step (i := 9) rfl (fun K hK => ?_)
          have HK : Shut (∀ a w, _ → K a w) := hK
          clear hK ho
          have HS := Lib.hid hs
          clear hs ha hi
          go_simp
          exact HK.out _ _ ⟨upd e 9 true, upd (upd (upd t 31 _) 38 _) 39 _, g, rfl, rfl, by rw [upd_self H1.out, upd_self H8.out]; exact HS.out.vals ok (i := 9) rfl⟩
        | 10, ho, hi, ha =>
          obtain rfl : _ = o := Option.some.inj ho
          have T9 : t 39 = .bool true := hs.val 9 rfl (ha { on := 9, ground := .guard } (by simp) rfl)
          have H9 := Lib.hid T9
          refine wpOp_step (i := 10) rfl (fun K hK => ?_)
          have HK : Shut (∀ a w, _ → K a w) := hK
          clear hK ho
          obtain ⟨c0, c1, c2, c3, cz⟩ := FB.out.next hs.be
          have HS := Lib.hid hs
          clear hs ha hi
          go_simp
          exact HK.out _ _ ⟨upd e 10 true, upd (upd t 39 _) 40 _, g, rfl, rfl, by rw [upd_self H9.out]; exact HS.out.vals ok (i := 10) rfl⟩
        | 11, ho, hi, ha =>
          obtain rfl : _ = o := Option.some.inj ho
          have T9 : t 39 = .bool true := hs.val 9 rfl (ha { on := 9, ground := .guard } (by simp) rfl)
          have H9 := Lib.hid T9
          refine wpOp_step (i := 11) rfl (fun K hK => ?_)
          have HK : Shut (∀ a w, _ → K a w) := hK
          clear hK ho
          obtain ⟨c0, c1, c2, c3, cz⟩ := FA.out.next hs.be
          have HS := Lib.hid hs
          clear hs ha hi
          go_simp
          exact HK.out _ _ ⟨upd e 11 true, upd (upd t 39 _) 41 _, g, rfl, rfl, by rw [upd_self H9.out]; exact HS.out.vals ok (i := 11) rfl⟩
        | 12, ho, hi, ha =>
          obtain rfl : _ = o := Option.some.inj ho
          have T9 : t 39 = .bool true := hs.val 9 rfl (ha { on := 9, ground := .guard } (by simp) rfl)
          have H9 := Lib.hid T9
          have T10 : t 40 = .agg #[.int .i64 y.b, .int .i64 y.d, .int .i64 y.s, .int .i64 y.i] := hs.val 10 rfl (ha { on := 10, ground := .data } (by simp) rfl)
          have H10 := Lib.hid T10
          have T11 : t 41 = .agg #[.int .i64 x.b, .int .i64 x.d, .int .i64 x.s, .int .i64 x.i] := hs.val 11 rfl (ha { on := 11, ground := .data } (by simp) rfl)
          have H11 := Lib.hid T11
          refine wpOp_step (i := 12) rfl (fun K hK => ?_)
          have HK : Shut (∀ a w, _ → K a w) := hK
          clear hK ho
          have HS := Lib.hid hs
          clear hs ha hi
          go_simp
          (with_reducible refine (L2 _).mono ?_)
          rintro e' w' ⟨rfl, m⟩
          go_wp2_with fail
          exact HK.out _ _ ⟨upd e 12 true, upd (upd (upd (upd t 39 _) 40 _) 41 _) 42 _, g, rfl, rfl, by rw [upd_self H9.out, upd_self H10.out, upd_self H11.out]; exact (HS.out.grow m.below).vals ok (i := 12) rfl⟩
        | 13, ho, hi, ha =>
          obtain rfl : _ = o := Option.some.inj ho
          have T9 : t 39 = .bool true := hs.val 9 rfl (ha { on := 9, ground := .guard } (by simp) rfl)
          have H9 := Lib.hid T9
          have T12 : t 42 = .bool true := hs.val 12 rfl (ha { on := 12, ground := .data } (by simp) rfl)
          have H12 := Lib.hid T12
          refine wpOp_step (i := 13) rfl (fun K hK => ?_)
          have HK : Shut (∀ a w, _ → K a w) := hK
          clear hK ho
          have HS := Lib.hid hs
          clear hs ha hi
          go_simp
          exact HK.out _ _ ⟨upd e 13 true, upd (upd (upd t 39 _) 42 _) 43 _, g, rfl, rfl, by rw [upd_self H9.out, upd_self H12.out]; exact HS.out.vals ok (i := 13) rfl⟩
        | 14, ho, hi, ha =>
          obtain rfl : _ = o := Option.some.inj ho
          have T1 : t 31 = .bool true := hs.val 1 rfl (ha { on := 1, ground := .guard } (by simp) rfl)
          have H1 := Lib.hid T1
          have T9 : t 39 = .bool true := hs.val 9 rfl (ha { on := 9, ground := .data } (by simp) rfl)
          have H9 := Lib.hid T9
          have T13 : t 43 = .bool false := hs.val 13 rfl (ha { on := 13, ground := .data } (by simp) rfl)
          have H13 := Lib.hid T13
          refine wpOp_step (i := 14) rfl (fun K hK => ?_)
          have HK : Shut (∀ a w, _ → K a w) := hK
          clear hK ho
          have HS := Lib.hid hs
          clear hs ha hi
          go_simp
          exact HK.out _ _ ⟨upd e 14 true, upd (upd (upd (upd t 31 _) 39 _) 43 _) 44 _, g, rfl, rfl, by rw [upd_self H1.out, upd_self H9.out, upd_self H13.out]; exact HS.out.vals ok (i := 14) rfl⟩
        | 15, ho, hi, ha =>
          obtain rfl : _ = o := Option.some.inj ho
          have T1 : t 31 = .bool true := hs.val 1 rfl (ha { on := 1, ground := .guard } (by simp) rfl)
          have H1 := Lib.hid T1
          have T4 : t 34 = .bool false := hs.val 4 rfl (ha { on := 4, ground := .data } (by simp) rfl)
          have H4 := Lib.hid T4
          have T14 : t 44 = .bool false := hs.val 14 rfl (ha { on := 14, ground := .data } (by simp) rfl)
          have H14 := Lib.hid T14
          refine wpOp_step (i := 15) rfl (fun K hK => ?_)
          have HK : Shut (∀ a w, _ → K a w) := hK
          clear hK ho
          have HS := Lib.hid hs
          clear hs ha hi
          go_simp
          exact HK.out _ _ ⟨upd e 15 true, upd (upd (upd (upd t 31 _) 34 _) 44 _) 45 _, g, rfl, rfl, by rw [upd_self H1.out, upd_self H4.out, upd_self H14.out]; exact HS.out.vals ok (i := 15) rfl⟩
        | 16, ho, hi, ha =>
          obtain rfl : _ = o := Option.some.inj ho
          have T1 : t 31 = .bool true := hs.val 1 rfl (ha { on := 1, ground := .data } (by simp) rfl)
          have H1 := Lib.hid T1
          have T15 : t 45 = .bool true := hs.val 15 rfl (ha { on := 15, ground := .data } (by simp) rfl)
          have H15 := Lib.hid T15
          refine wpOp_step (i := 16) rfl (fun K hK => ?_)
          have HK : Shut (∀ a w, _ → K a w) := hK
          clear hK ho
          have HS := Lib.hid hs
          clear hs ha hi
          go_simp
          exact HK.out _ _ ⟨upd e 16 true, upd (upd (upd t 31 _) 45 _) 46 _, g, rfl, rfl, by rw [upd_self H1.out, upd_self H15.out]; exact HS.out.vals ok (i := 16) rfl⟩
        | 17, ho, hi, ha =>
          obtain rfl : _ = o := Option.some.inj ho
          have T16 : t 46 = .bool true := hs.val 16 rfl (ha { on := 16, ground := .data } (by simp) rfl)
          have H16 := Lib.hid T16
          refine wpOp_step (i := 17) rfl (fun K hK => ?_)
          have HK : Shut (∀ a w, _ → K a w) := hK
          clear hK ho
          have HS := Lib.hid hs
          clear hs ha hi
          go_simp
          exact HK.out _ _ ⟨upd e 17 true, upd (upd t 46 _) 47 _, g, rfl, rfl, by rw [upd_self H16.out]; exact HS.out.vals ok (i := 17) rfl⟩
        | 18, ho, hi, ha =>
          obtain rfl : _ = o := Option.some.inj ho
          have T17 : t 47 = .bool true := hs.val 17 rfl (ha { on := 17, ground := .guard } (by simp) rfl)
          have H17 := Lib.hid T17
          refine wpOp_step (i := 18) rfl (fun K hK => ?_)
          have HK : Shut (∀ a w, _ → K a w) := hK
          clear hK ho
          obtain ⟨c0, c1, c2, c3, cz⟩ := FA.out.next hs.be
          have HS := Lib.hid hs
          clear hs ha hi
          go_simp
          exact HK.out _ _ ⟨upd e 18 true, upd (upd t 47 _) 48 _, g, rfl, rfl, by rw [upd_self H17.out]; exact HS.out.vals ok (i := 18) rfl⟩
        | 19, ho, hi, ha =>
          obtain rfl : _ = o := Option.some.inj ho
          have T17 : t 47 = .bool true := hs.val 17 rfl (ha { on := 17, ground := .guard } (by simp) rfl)
          have H17 := Lib.hid T17
          refine wpOp_step (i := 19) rfl (fun K hK => ?_)
          have HK : Shut (∀ a w, _ → K a w) := hK
          clear hK ho
          obtain ⟨c0, c1, c2, c3, cz⟩ := FB.out.next hs.be
          have HS := Lib.hid hs
          clear hs ha hi
          go_simp
          exact HK.out _ _ ⟨upd e 19 true, upd (upd t 47 _) 49 _, g, rfl, rfl, by rw [upd_self H17.out]; exact HS.out.vals ok (i := 19) rfl⟩
        | 20, ho, hi, ha =>
          obtain rfl : _ = o := Option.some.inj ho
          have T17 : t 47 = .bool true := hs.val 17 rfl (ha { on := 17, ground := .guard } (by simp) rfl)
          have H17 := Lib.hid T17
          have T18 : t 48 = .agg #[.int .i64 x.b, .int .i64 x.d, .int .i64 x.s, .int .i64 x.i] := hs.val 18 rfl (ha { on := 18, ground := .data } (by simp) rfl)
          have H18 := Lib.hid T18
          have T19 : t 49 = .agg #[.int .i64 y.b, .int .i64 y.d, .int .i64 y.s, .int .i64 y.i] := hs.val 19 rfl (ha { on := 19, ground := .data } (by simp) rfl)
          have H19 := Lib.hid T19
          refine wpOp_step (i := 20) rfl (fun K hK => ?_)
          have HK : Shut (∀ a w, _ → K a w) := hK
          clear hK ho
          have HS := Lib.hid hs
          clear hs ha hi
          go_simp
          (with_reducible refine (L1 _).mono ?_)
          rintro e' w' ⟨rfl, m⟩
          go_wp2_with fail
          exact HK.out _ _ ⟨upd e 20 true, upd (upd (upd (upd t 47 _) 48 _) 49 _) 50 _, g, rfl, rfl, by rw [upd_self H17.out, upd_self H18.out, upd_self H19.out]; exact (HS.out.grow m.below).vals ok (i := 20) rfl⟩
        | 21, ho, hi, ha =>
          obtain rfl : _ = o := Option.some.inj ho
          have T17 : t 47 = .bool true := hs.val 17 rfl (ha { on := 17, ground := .guard } (by simp) rfl)
          have H17 := Lib.hid T17
          have T20 : t 50 = .bool false := hs.val 20 rfl (ha { on := 20, ground := .data } (by simp) rfl)
          have H20 := Lib.hid T20
          refine wpOp_step (i := 21) rfl (fun K hK => ?_)
          have HK : Shut (∀ a w, _ → K a w) := hK
          clear hK ho
          have HS := Lib.hid hs
          clear hs ha hi
          go_simp
          exact HK.out _ _ ⟨upd e 21 true, upd (upd (upd t 47 _) 50 _) 51 _, g, rfl, rfl, by rw [upd_self H17.out, upd_self H20.out]; exact HS.out.vals ok (i := 21) rfl⟩
        | 22, ho, hi, ha =>
          obtain rfl : _ = o := Option.some.inj ho
          have T21 : t 51 = .bool false := hs.val 21 rfl (ha { on := 21, ground := .guard } (by simp) rfl)
          have H21 := Lib.hid T21
          refine wpOp_step (i := 22) rfl (fun K hK => ?_)
          have HK : Shut (∀ a w, _ → K a w) := hK
          clear hK ho
          have HS := Lib.hid hs
          clear hs ha hi
          go_simp
          exact HK.out _ _ ⟨upd e 22 true, upd (upd t 51 _) 52 _, g, rfl, rfl, by rw [upd_self H21.out]; exact HS.out.vals ok (i := 22) rfl⟩
        | 23, ho, hi, ha =>
          obtain rfl : _ = o := Option.some.inj ho
          have T21 : t 51 = .bool false := hs.val 21 rfl (ha { on := 21, ground := .guard } (by simp) rfl)
          have H21 := Lib.hid T21
          refine wpOp_step (i := 23) rfl (fun K hK => ?_)
          have HK : Shut (∀ a w, _ → K a w) := hK
          clear hK ho
          have HS := Lib.hid hs
          clear hs ha hi
          go_simp
          exact HK.out _ _ ⟨upd e 23 true, upd (upd t 51 _) 53 _, g, rfl, rfl, by rw [upd_self H21.out]; exact HS.out.vals ok (i := 23) rfl⟩
        | 24, ho, hi, ha =>
          obtain rfl : _ = o := Option.some.inj ho
          have T21 : t 51 = .bool false := hs.val 21 rfl (ha { on := 21, ground := .guard } (by simp) rfl)
          have H21 := Lib.hid T21
          refine wpOp_step (i := 24) rfl (fun K hK => ?_)
          have HK : Shut (∀ a w, _ → K a w) := hK
          clear hK ho
          have HS := Lib.hid hs
          clear hs ha hi
          go_simp
          exact HK.out _ _ ⟨upd e 24 true, upd (upd t 51 _) 54 _, g, rfl, rfl, by rw [upd_self H21.out]; exact HS.out.vals ok (i := 24) rfl⟩
        | 25, ho, hi, ha =>
          obtain rfl : _ = o := Option.some.inj ho
          have T17 : t 47 = .bool true := hs.val 17 rfl (ha { on := 17, ground := .guard } (by simp) rfl)
          have H17 := Lib.hid T17
          have T21 : t 51 = .bool false := hs.val 21 rfl (ha { on := 21, ground := .data } (by simp) rfl)
          have H21 := Lib.hid T21
          refine wpOp_step (i := 25) rfl (fun K hK => ?_)
          have HK : Shut (∀ a w, _ → K a w) := hK
          clear hK ho
          have HS := Lib.hid hs
          clear hs ha hi
          go_simp
          exact HK.out _ _ ⟨upd e 25 true, upd (upd (upd t 47 _) 51 _) 55 _, g, rfl, rfl, by rw [upd_self H17.out, upd_self H21.out]; exact HS.out.vals ok (i := 25) rfl⟩
        | 26, ho, hi, ha =>
          obtain rfl : _ = o := Option.some.inj ho
          have T17 : t 47 = .bool true := hs.val 17 rfl (ha { on := 17, ground := .guard } (by simp) rfl)
          have H17 := Lib.hid T17
          have T25 : t 55 = .bool false := hs.val 25 rfl (ha { on := 25, ground := .data } (by simp) rfl)
          have H25 := Lib.hid T25
          refine wpOp_step (i := 26) rfl (fun K hK => ?_)
          have HK : Shut (∀ a w, _ → K a w) := hK
          clear hK ho
          have HS := Lib.hid hs
          clear hs ha hi
          go_simp
          exact HK.out _ _ ⟨upd e 26 true, upd (upd (upd t 47 _) 55 _) 56 _, g, rfl, rfl, by rw [upd_self H17.out, upd_self H25.out]; exact HS.out.vals ok (i := 26) rfl⟩
        | 27, ho, hi, ha =>
          obtain rfl : _ = o := Option.some.inj ho
          have T17 : t 47 = .bool true := hs.val 17 rfl (ha { on := 17, ground := .data } (by simp) rfl)
          have H17 := Lib.hid T17
          have T26 : t 56 = .bool true := hs.val 26 rfl (ha { on := 26, ground := .data } (by simp) rfl)
          have H26 := Lib.hid T26
          refine wpOp_step (i := 27) rfl (fun K hK => ?_)
          have HK : Shut (∀ a w, _ → K a w) := hK
          clear hK ho
          have HS := Lib.hid hs
          clear hs ha hi
          go_simp
          exact HK.out _ _ ⟨upd e 27 true, upd (upd (upd t 47 _) 56 _) 57 _, g, rfl, rfl, by rw [upd_self H17.out, upd_self H26.out]; exact HS.out.vals ok (i := 27) rfl⟩
        | 28, ho, hi, ha =>
          obtain rfl : _ = o := Option.some.inj ho
          have T27 : t 57 = .bool true := hs.val 27 rfl (ha { on := 27, ground := .data } (by simp) rfl)
          have H27 := Lib.hid T27
          refine wpOp_step (i := 28) rfl (fun K hK => ?_)
          have HK : Shut (∀ a w, _ → K a w) := hK
          clear hK ho
          have HS := Lib.hid hs
          clear hs ha hi
          go_simp
          exact HK.out _ _ ⟨upd e 28 true, upd (upd t 57 _) 58 _, g, rfl, rfl, by rw [upd_self H27.out]; exact HS.out.vals ok (i := 28) rfl⟩
        | 29, ho, hi, ha =>
          obtain rfl : _ = o := Option.some.inj ho
          have T28 : t 58 = .bool true := hs.val 28 rfl (ha { on := 28, ground := .guard } (by simp) rfl)
          have H28 := Lib.hid T28
          refine wpOp_step (i := 29) rfl (fun K hK => ?_)
          have HK : Shut (∀ a w, _ → K a w) := hK
          clear hK ho
          have HS := Lib.hid hs
          clear hs ha hi
          go_simp
          exact HK.out _ _ ⟨upd e 29 true, upd (upd t 58 _) 59 _, g, rfl, rfl, by rw [upd_self H28.out]; exact HS.out.vals ok (i := 29) rfl⟩
        | 30, ho, hi, ha =>
          obtain rfl : _ = o := Option.some.inj ho
          have T28 : t 58 = .bool true := hs.val 28 rfl (ha { on := 28, ground := .guard } (by simp) rfl)
          have H28 := Lib.hid T28
          have T29 : t 59 = .pointer (some ⟨ga, 0, none⟩) := hs.val 29 rfl (ha { on := 29, ground := .data } (by simp) rfl)
          have H29 := Lib.hid T29
          refine wpOp_step (i := 30) rfl (fun K hK => ?_)
          have HK : Shut (∀ a w, _ → K a w) := hK
          clear hK ho
          obtain ⟨c0, c1, c2, c3, cz⟩ := FA.out.next hs.be
          have HS := Lib.hid hs
          clear hs ha hi
          go_simp
          exact HK.out _ _ ⟨upd e 30 true, upd (upd (upd t 58 _) 59 _) 60 _, g, rfl, rfl, by rw [upd_self H28.out, upd_self H29.out]; exact HS.out.vals ok (i := 30) rfl⟩
        | 31, ho, hi, ha =>
          obtain rfl : _ = o := Option.some.inj ho
          have T28 : t 58 = .bool true := hs.val 28 rfl (ha { on := 28, ground := .guard } (by simp) rfl)
          have H28 := Lib.hid T28
          refine wpOp_step (i := 31) rfl (fun K hK => ?_)
          have HK : Shut (∀ a w, _ → K a w) := hK
          clear hK ho
          have HS := Lib.hid hs
          clear hs ha hi
          go_simp
          exact HK.out _ _ ⟨upd e 31 true, upd (upd t 58 _) 61 _, g, rfl, rfl, by rw [upd_self H28.out]; exact HS.out.vals ok (i := 31) rfl⟩
        | 32, ho, hi, ha =>
          obtain rfl : _ = o := Option.some.inj ho
          have T28 : t 58 = .bool true := hs.val 28 rfl (ha { on := 28, ground := .guard } (by simp) rfl)
          have H28 := Lib.hid T28
          have T31 : t 61 = .pointer (some ⟨gb, 0, none⟩) := hs.val 31 rfl (ha { on := 31, ground := .data } (by simp) rfl)
          have H31 := Lib.hid T31
          refine wpOp_step (i := 32) rfl (fun K hK => ?_)
          have HK : Shut (∀ a w, _ → K a w) := hK
          clear hK ho
          obtain ⟨c0, c1, c2, c3, cz⟩ := FB.out.next hs.be
          have HS := Lib.hid hs
          clear hs ha hi
          go_simp
          exact HK.out _ _ ⟨upd e 32 true, upd (upd (upd t 58 _) 61 _) 62 _, g, rfl, rfl, by rw [upd_self H28.out, upd_self H31.out]; exact HS.out.vals ok (i := 32) rfl⟩
        | 33, ho, hi, ha =>
          obtain rfl : _ = o := Option.some.inj ho
          have T28 : t 58 = .bool true := hs.val 28 rfl (ha { on := 28, ground := .guard } (by simp) rfl)
          have H28 := Lib.hid T28
          have T30 : t 60 = .agg #[.int .i64 x.b, .int .i64 x.d, .int .i64 x.s] := hs.val 30 rfl (ha { on := 30, ground := .data } (by simp) rfl)
          have H30 := Lib.hid T30
          have T32 : t 62 = .agg #[.int .i64 y.b, .int .i64 y.d, .int .i64 y.s] := hs.val 32 rfl (ha { on := 32, ground := .data } (by simp) rfl)
          have H32 := Lib.hid T32
          refine wpOp_step (i := 33) rfl (fun K hK => ?_)
          have HK : Shut (∀ a w, _ → K a w) := hK
          clear hK ho
          have HS := Lib.hid hs
          clear hs ha hi
          go_simp
          (with_reducible refine (C1 _).mono ?_)
          rintro e' w' ⟨rfl, m⟩
          go_wp2_with fail
          exact HK.out _ _ ⟨upd e 33 true, upd (upd (upd (upd t 58 _) 60 _) 62 _) 63 _, g, rfl, rfl, by rw [upd_self H28.out, upd_self H30.out, upd_self H32.out]; exact (HS.out.grow m.below).vals ok (i := 33) rfl⟩
        | 34, ho, hi, ha =>
          obtain rfl : _ = o := Option.some.inj ho
          have T28 : t 58 = .bool true := hs.val 28 rfl (ha { on := 28, ground := .guard } (by simp) rfl)
          have H28 := Lib.hid T28
          refine wpOp_step (i := 34) rfl (fun K hK => ?_)
          have HK : Shut (∀ a w, _ → K a w) := hK
          clear hK ho
          have HS := Lib.hid hs
          clear hs ha hi
          go_simp
          exact HK.out _ _ ⟨upd e 34 true, upd (upd t 58 _) 64 _, g, rfl, rfl, by rw [upd_self H28.out]; exact HS.out.vals ok (i := 34) rfl⟩
        | 35, ho, hi, ha =>
          obtain rfl : _ = o := Option.some.inj ho
          have T28 : t 58 = .bool true := hs.val 28 rfl (ha { on := 28, ground := .guard } (by simp) rfl)
          have H28 := Lib.hid T28
          have T34 : t 64 = .pointer (some ⟨gb, 0, none⟩) := hs.val 34 rfl (ha { on := 34, ground := .data } (by simp) rfl)
          have H34 := Lib.hid T34
          refine wpOp_step (i := 35) rfl (fun K hK => ?_)
          have HK : Shut (∀ a w, _ → K a w) := hK
          clear hK ho
          obtain ⟨c0, c1, c2, c3, cz⟩ := FB.out.next hs.be
          have HS := Lib.hid hs
          clear hs ha hi
          go_simp
          exact HK.out _ _ ⟨upd e 35 true, upd (upd (upd t 58 _) 64 _) 65 _, g, rfl, rfl, by rw [upd_self H28.out, upd_self H34.out]; exact HS.out.vals ok (i := 35) rfl⟩
        | 36, ho, hi, ha =>
          obtain rfl : _ = o := Option.some.inj ho
          have T28 : t 58 = .bool true := hs.val 28 rfl (ha { on := 28, ground := .guard } (by simp) rfl)
          have H28 := Lib.hid T28
          refine wpOp_step (i := 36) rfl (fun K hK => ?_)
          have HK : Shut (∀ a w, _ → K a w) := hK
          clear hK ho
          have HS := Lib.hid hs
          clear hs ha hi
          go_simp
          exact HK.out _ _ ⟨upd e 36 true, upd (upd t 58 _) 66 _, g, rfl, rfl, by rw [upd_self H28.out]; exact HS.out.vals ok (i := 36) rfl⟩
        | 37, ho, hi, ha =>
          obtain rfl : _ = o := Option.some.inj ho
          have T28 : t 58 = .bool true := hs.val 28 rfl (ha { on := 28, ground := .guard } (by simp) rfl)
          have H28 := Lib.hid T28
          have T36 : t 66 = .pointer (some ⟨ga, 0, none⟩) := hs.val 36 rfl (ha { on := 36, ground := .data } (by simp) rfl)
          have H36 := Lib.hid T36
          refine wpOp_step (i := 37) rfl (fun K hK => ?_)
          have HK : Shut (∀ a w, _ → K a w) := hK
          clear hK ho
          obtain ⟨c0, c1, c2, c3, cz⟩ := FA.out.next hs.be
          have HS := Lib.hid hs
          clear hs ha hi
          go_simp
          exact HK.out _ _ ⟨upd e 37 true, upd (upd (upd t 58 _) 66 _) 67 _, g, rfl, rfl, by rw [upd_self H28.out, upd_self H36.out]; exact HS.out.vals ok (i := 37) rfl⟩
        | 38, ho, hi, ha =>
          obtain rfl : _ = o := Option.some.inj ho
          have T28 : t 58 = .bool true := hs.val 28 rfl (ha { on := 28, ground := .guard } (by simp) rfl)
          have H28 := Lib.hid T28
          have T35 : t 65 = .agg #[.int .i64 y.b, .int .i64 y.d, .int .i64 y.s] := hs.val 35 rfl (ha { on := 35, ground := .data } (by simp) rfl)
          have H35 := Lib.hid T35
          have T37 : t 67 = .agg #[.int .i64 x.b, .int .i64 x.d, .int .i64 x.s] := hs.val 37 rfl (ha { on := 37, ground := .data } (by simp) rfl)
          have H37 := Lib.hid T37
          refine wpOp_step (i := 38) rfl (fun K hK => ?_)
          have HK : Shut (∀ a w, _ → K a w) := hK
          clear hK ho
          have HS := Lib.hid hs
          clear hs ha hi
          go_simp
          (with_reducible refine (C2 _).mono ?_)
          rintro e' w' ⟨rfl, m⟩
          go_wp2_with fail
          exact HK.out _ _ ⟨upd e 38 true, upd (upd (upd (upd t 58 _) 65 _) 67 _) 68 _, g, rfl, rfl, by rw [upd_self H28.out, upd_self H35.out, upd_self H37.out]; exact (HS.out.grow m.below).vals ok (i := 38) rfl⟩
        | 39, ho, hi, ha =>
          obtain rfl : _ = o := Option.some.inj ho
          have T28 : t 58 = .bool true := hs.val 28 rfl (ha { on := 28, ground := .guard } (by simp) rfl)
          have H28 := Lib.hid T28
          have T38 : t 68 = .int .i64 k2 := hs.val 38 rfl (ha { on := 38, ground := .data } (by simp) rfl)
          have H38 := Lib.hid T38
          have ng := neg.out
          refine wpOp_step (i := 39) rfl (fun K hK => ?_)
          have HK : Shut (∀ a w, _ → K a w) := hK
          clear hK ho
          have HS := Lib.hid hs
          clear hs ha hi
          go_simp
          exact HK.out _ _ ⟨upd e 39 true, upd (upd (upd t 58 _) 68 _) 69 _, g, rfl, rfl, by rw [upd_self H28.out, upd_self H38.out]; exact HS.out.vals ok (i := 39) rfl⟩
        | 40, ho, hi, ha =>
          obtain rfl : _ = o := Option.some.inj ho
          have T28 : t 58 = .bool true := hs.val 28 rfl (ha { on := 28, ground := .guard } (by simp) rfl)
          have H28 := Lib.hid T28
          have T33 : t 63 = .int .i64 k1 := hs.val 33 rfl (ha { on := 33, ground := .data } (by simp) rfl)
          have H33 := Lib.hid T33
          have T39 : t 69 = .int .i64 k1 := hs.val 39 rfl (ha { on := 39, ground := .data } (by simp) rfl)
          have H39 := Lib.hid T39
          refine wpOp_step (i := 40) rfl (fun K hK => ?_)
          have HK : Shut (∀ a w, _ → K a w) := hK
          clear hK ho
          have HS := Lib.hid hs
          clear hs ha hi
          go_simp
          exact HK.out _ _ ⟨upd e 40 true, upd (upd (upd (upd t 58 _) 63 _) 69 _) 70 _, g, rfl, rfl, by rw [upd_self H28.out, upd_self H33.out, upd_self H39.out]; exact HS.out.vals ok (i := 40) rfl⟩
        | 41, ho, hi, ha =>
          obtain rfl : _ = o := Option.some.inj ho
          have T28 : t 58 = .bool true := hs.val 28 rfl (ha { on := 28, ground := .data } (by simp) rfl)
          have H28 := Lib.hid T28
          have T40 : t 70 = .bool true := hs.val 40 rfl (ha { on := 40, ground := .data } (by simp) rfl)
          have H40 := Lib.hid T40
          refine wpOp_step (i := 41) rfl (fun K hK => ?_)
          have HK : Shut (∀ a w, _ → K a w) := hK
          clear hK ho
          have HS := Lib.hid hs
          clear hs ha hi
          go_simp
          exact HK.out _ _ ⟨upd e 41 true, upd (upd (upd t 58 _) 70 _) 71 _, g, rfl, rfl, by rw [upd_self H28.out, upd_self H40.out]; exact HS.out.vals ok (i := 41) rfl⟩
        | 42, ho, hi, ha =>
          obtain rfl : _ = o := Option.some.inj ho
          have T41 : t 71 = .bool true := hs.val 41 rfl (ha { on := 41, ground := .data } (by simp) rfl)
          have H41 := Lib.hid T41
          refine wpOp_step (i := 42) rfl (fun K hK => ?_)
          have HK : Shut (∀ a w, _ → K a w) := hK
          clear hK ho
          have HS := Lib.hid hs
          clear hs ha hi
          go_simp
          exact HK.out _ _ ⟨upd e 42 true, upd (upd t 71 _) 6 _, g, rfl, rfl, by rw [upd_self H41.out]; exact HS.out.vals ok (i := 42) rfl⟩
        | k + 43, ho, hi, ha => simp at ho
      case done =>
        rintro l a wr ⟨e, t, g, rfl, rfl, hs⟩ hr
        have hd := ready_done hr rfl (by decide +kernel)
        have e42 : e 42 = true := hd 42 (by decide)
        have v6 : t 6 = .bool true := hs.val 42 rfl e42
        have BE := F.out.be.trans (hs.be.mono F.out.be.size)
        rw [v6]
        clear hs hd hr e42 v6 F FA FB
        go_wp2
        go_ret
        exact ⟨rfl, BE⟩


/-! ### the row -/
open Go.ChangeShapes Go.WideShapes Go.ChangeAt
theorem lifted (os : Os) (started : os.Started) (H : Type) (enc : TypeId × Value → H) :
    ReturnsInHanded {} Tryd.checked os 5 .any (fun w args => (Rows.keyChainSpec.pre enc Tryd.prog Tryd.f5 [] false w args ∧ laidMetH Tryd.prog laidL w) ∧ sizedMet enc Tryd.prog Tryd.f5 (OpenSpec.ofChange Rows.keyChainSpec) false w args)
      (Rows.keyChainSpec.post enc Tryd.prog Tryd.f5 false true false false) := by
  refine returnsInHanded_of_change_and (C := Tryd.checked) (X := fun w _ => laidMetH Tryd.prog laidL w) (fun _ _ _ hh h => h.of_heap hh) own started (by kernel_rfl) Tryd.func5
    (ChangeSpec.witness_shaped (enc := enc) (C := Tryd.checked) (os := os) (X := fun w _ => laidMetH Tryd.prog laidL w) false (World.doorLaid Tryd.prog 400 os) #[.agg #[.int .i64 0, .int .i64 0, .int .i64 0, .int .i64 0], .agg #[.int .i64 0, .int .i64 0, .int .i64 0, .int .i64 0], .agg #[.int .i64 0, .int .i64 0, .int .i64 0, .int .i64 0]] 8 rfl (World.shaped_of_RefB (by kernel_rfl) (by kernel_rfl)) (by kernel_rfl) (by kernel_rfl) (by kernel_rfl) (door_met os _)) ?_
  intro W base args ds gs before hval0 hW _ hsz0 hL _
  have hval : ∀ (j : Nat) t v, Tryd.f5.params[j]? = some t → args[j]? = some v → Value.okWide Tryd.prog W .any base t v := hval0
  have hW' := hW
  obtain ⟨p, q, hA0, hV, rfl, hfz, hnd⟩ := hW
  have hA : DataW.TrodAll enc Tryd.prog W 0 (fun _ => true) true Tryd.f5.params.toList args.toList ds p := hA0
  rw [Tryd.params5] at hA hval
  obtain ⟨v0, vs0, d0, ds0, p0, q0, hargs, rfl, rfl, h0, r0⟩ := trodAll_cons hA
  obtain ⟨v1, vs1, d1, ds1, p1, q1, rfl, rfl, rfl, h1, r1⟩ := trodAll_cons r0
  obtain ⟨v2, vs2, d2, ds2, p2, q2, rfl, rfl, rfl, h2, r2⟩ := trodAll_cons r1
  obtain ⟨rfl, rfl, rfl⟩ := trodAll_nil r2
  obtain rfl : args = #[v0, v1, v2] := by cases args; simp_all
  obtain ⟨rfl, rfl⟩ := trodVars_none hV
  have k0 := h0
  have lt0 : ∀ x ∈ p0, x.block < W.heap.size := by obtain ⟨m, hm⟩ := k0; exact DataW.trod_lt m _ _ _ hm
  obtain ⟨x0, w0, rfl⟩ := open_ent (hval 0 23 v0 rfl rfl) h0
  have k1 := h1
  have lt1 : ∀ x ∈ p1, x.block < W.heap.size := by obtain ⟨m, hm⟩ := k1; exact DataW.trod_lt m _ _ _ hm
  obtain ⟨x1, w1, rfl⟩ := open_ent (hval 1 23 v1 rfl rfl) h1
  have k2 := h2
  have lt2 : ∀ x ∈ p2, x.block < W.heap.size := by obtain ⟨m, hm⟩ := k2; exact DataW.trod_lt m _ _ _ hm
  obtain ⟨x2, w2, rfl⟩ := open_ent (hval 2 23 v2 rfl rfl) h2
  clear hA0 hval0
  refine (walk x0 x1 x2 W w0 w1 w2 (tabOk_of_laid hL)).mono fun e W' ⟨he, bel⟩ => ?_
  subst he
  exact ⟨_, rfl, _, _, _, [], _, [], hW', trodAll_mk1 (shut_bool Tryd.underlying4 _), (trodAll_cons_mk (Below.trod laidOut (by kernel_rfl) (of_decide_eq_true (by kernel_rfl)) k0 bel lt0) (trodAll_cons_mk (Below.trod laidOut (by kernel_rfl) (of_decide_eq_true (by kernel_rfl)) k1 bel lt1) (trodAll_cons_mk (Below.trod laidOut (by kernel_rfl) (of_decide_eq_true (by kernel_rfl)) k2 bel lt2) trodAll_mk0))), rfl, bel.frame _, fun h => by cases h⟩

theorem over : Rows.keyChainRow.holds Tryd.pinned (OpenSpec.ofChange Rows.keyChainSpec) :=
  OpenClaim.holds_of_wide 5 Tryd.f5 rfl rfl rfl rfl rfl rfl rfl ⟨rfl, rfl, rfl, rfl, rfl⟩ rfl rfl rfl rfl rfl (by kernel_rfl) Tryd.func5 (by kernel_rfl)
    (of_decide_eq_true (by kernel_rfl)) (by unfold Func.isWrapper; first | (rw [if_pos (by decide +kernel)]; kernel_rfl) | (rw [if_neg (by decide +kernel)]; exact ⟨rfl, rfl⟩))
    (fun os started H enc _ => lifted os started H enc)

theorem card : Rows.KeyChainCardSaid :=
  Claim7.holds_tied_plain_at .later [] [.data, .data, .data] true _ false
    over (fun _ h => by cases h) (by kernel_rfl) (fun _ h => by cases h) keyChain_row_tie rfl ⟨rfl, rfl⟩ (by kernel_rfl) rfl
    (fun f fn hf hfn => by
      obtain rfl : f = 5 := Option.some.inj ((show Tryd.prog.funcNamed Rows.keyChainRow.func = some 5 by kernel_rfl).symm.trans hf) |>.symm
      obtain rfl : fn = Tryd.f5 := (Option.some.inj (Tryd.func5.symm.trans hfn)).symm
      exact ⟨by kernel_rfl, fun j t ht => by
        rw [Tryd.params5] at ht
        have hm : t ∈ [23, 23, 23] := by simpa using Array.mem_of_getElem? ht
        have hall : ([23, 23, 23].all fun u => !Tryd.prog.wantsStandIn u) = true := by kernel_rfl
        exact (show Tryd.prog.wantsStandIn t = false by simpa using List.all_eq_true.1 hall t hm)⟩)
    (by kernel_rfl)

end Go.Proofs.YthfdpnmdcmpgbaaDoor.keyChain
namespace Go.Proofs.YthfdpnmdcmpgbaaDoor
theorem keyChain_holds : Rows.KeyChainCardSaid := keyChain.card
#print axioms keyChain_holds
end Go.Proofs.YthfdpnmdcmpgbaaDoor

