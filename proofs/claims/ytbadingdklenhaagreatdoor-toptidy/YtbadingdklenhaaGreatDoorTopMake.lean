/-
  What the laws' insts does (layer 9): the program's and the document's instance of one that came in.
-/
import Derived.Test.YtbadingdklenhaaGreatDoorInstBag
import Derived.Lib.MinMax
namespace Go.Proofs.YtbadingdklenhaaGreatDoor
set_option maxRecDepth 100000
open Go.RowKit

theorem info_pair : ∃ i, Tryz.prog.info? 64 = some i ∧ i.zero = some (.agg #[.int .i64 0, .int .i64 0]) ∧ i.size = 2 ∧ i.bytes = 16 := info_of (by kernel_rfl)
theorem info_dset : ∃ i, Tryz.prog.info? 72 = some i ∧ i.zero = some (.agg #[.int .i64 0, .slice none 0 0]) ∧ i.size = 2 ∧ i.bytes = 32 := info_of (by kernel_rfl)
theorem Lies.less {F : Nat → Prop} {w : World} {A : Option Addr} {n C m k : Nat} {cs cs' : List Value} (h : Lies F w (.slice A n C) n cs) (hm : m ≤ n) (hcs : ∀ (j : Nat) v, cs'[j]? = some v → cs[j]? = some v) (_hk : k = m) : Lies F w (.slice A m C) m cs' := by
  obtain ⟨A', C', e, h2, h3, h4⟩ := h
  simp only [Value.slice.injEq, true_and] at e
  obtain ⟨rfl, rfl⟩ := e
  refine ⟨A, C, rfl, by omega, h3, fun h0 => ?_⟩
  obtain ⟨b, off, h5, h6, h7, h8⟩ := h4 (by omega)
  exact ⟨b, off, h5, h6, h7, fun j v hj => h8 j v (hcs j v hj)⟩

theorem two_one (a b : Int) : ∀ v ∈ [Value.int .i64 a, Value.int .i64 b], v.oneCell' = true := by
  intro v hv
  simp at hv
  rcases hv with rfl | rfl <;> rfl
theorem one_head {v : Value} {A : Option Addr} {n C : Nat} (h : v = .slice A n C) : ∀ u ∈ [v], u.oneCell' = true := by
  intro u hu
  simp at hu
  rw [hu, h]
  rfl
theorem one_pair {v : Value} {x : Int} {A : Option Addr} {n C : Nat} (h : v = .slice A n C) : ∀ u ∈ [Value.int .i64 x, v], u.oneCell' = true := by
  intro u hu
  simp at hu
  rcases hu with rfl | rfl
  · rfl
  · rw [h]
    rfl
theorem fl2_take {l : List (Int × Int)} {k : Nat} {p : Int × Int} (h : l[k]? = some p) : fl2 (l.take (k + 1)) = fl2 (l.take k) ++ [.int .i64 p.1, .int .i64 p.2] := by
  rw [List.take_add_one, h, fl2_append]
  rfl
theorem own_keeps {a b B M size n : Nat} {w w' : World} {t : TypeId} {v : Value} {cs : List Value} (h : w.ownsRow M t size v n cs) (hq : ∀ q, v.ownBlock = some q → q < B ∧ q ≠ a ∧ q ≠ b) (hk : Keeps a b B w w') : w'.ownsRow M t size v n cs := by
  obtain ⟨h1, h2⟩ := h
  refine ⟨h1, ?_⟩
  rcases h2 with h2 | ⟨g, cap, cur, hv, hg, hh, r⟩
  · exact .inl h2
  · obtain ⟨q1, q2, q3⟩ := hq g (by rw [hv]; rfl)
    exact .inr ⟨g, cap, cur, hv, hg, (hk.block g q1 q2 q3).trans hh, r⟩
theorem own_slice {M size n : Nat} {w : World} {t : TypeId} {v : Value} {cs : List Value} (h : w.ownsRow M t size v n cs) : ∃ A m C, v = .slice A m C := by
  rcases h.2 with ⟨e, _⟩ | ⟨g, cap, cur, e, _⟩
  · exact ⟨_, _, _, e⟩
  · exact ⟨_, _, _, e⟩
/-- Two lists with nothing in them. -/
theorem bag_none (B : Nat) (w : World) (TA TB : TypeId) (sA sB : Nat) : Bag B w (fun i => if i = 0 then some ⟨.slice none 0 0, TA, sA, 0, []⟩ else if i = 1 then some ⟨.slice none 0 0, TB, sB, 0, []⟩ else none) := by
  have key : ∀ i x, (fun i => if i = 0 then some (⟨.slice none 0 0, TA, sA, 0, []⟩ : Lst) else if i = 1 then some ⟨.slice none 0 0, TB, sB, 0, []⟩ else none) i = some x → x.v = .slice none 0 0 ∧ x.n = 0 ∧ x.cs = [] := by
    intro i x hx
    by_cases h0 : i = 0
    · simp [h0] at hx; subst hx; exact ⟨rfl, rfl, rfl⟩
    · by_cases h1 : i = 1
      · simp [h1] at hx; subst hx; exact ⟨rfl, rfl, rfl⟩
      · simp [h0, h1] at hx
  refine ⟨fun i x hx => ?_, fun i j x y hij hx hy q hq => ?_⟩
  · obtain ⟨e1, e2, e3⟩ := key i x hx
    rw [e1, e2, e3]
    exact World.ownsRow_nil _ _ _ _
  · obtain ⟨e1, _, _⟩ := key i x hx
    rw [e1] at hq
    cases hq
/-- The program's instance's variable, and the document's. -/
def objA (I : In) (vi vc vs : Value) : Obj := .cells #[.int .i64 I.kind, .int .i64 I.cap, vi, vc, .int .i64 I.size, vs] 33 (0, 0)
def objB (I : In) (vi vc vs : Value) : Obj := .cells #[.int .i64 I.kind, .int .i64 I.cap, vi, vc, .int .i64 I.size, vs] 36 (0, 0)
/-- The items so far: in the program's and in the document's instance. -/
structure St1 (bA bB B : Nat) (I : In) (W0 : World) (k : Nat) (va vb : Value) (f : Nat → Option Lst) (wr : World) : Prop where
  mk ::
  a : wr.heap[bA]? = some (objA I va (.slice none 0 0) (.slice none 0 0))
  b : wr.heap[bB]? = some (objB I vb (.slice none 0 0) (.slice none 0 0))
  bag : Bag B wr f
  f0 : f 0 = some ⟨va, 70, 2, k, fl2 (I.items.take k)⟩
  f1 : f 1 = some ⟨vb, 64, 2, k, fl2 (I.items.take k)⟩
  be : Keeps bA bB B W0 wr
theorem objA_2 {I : In} {b : Nat} {w : World} {x y z : Value} (h : w.heap[b]? = some (objA I x y z)) : w.cell? ⟨b, 2, none⟩ = some x ∧ w.cell? ⟨b, 3, none⟩ = some y ∧ w.cell? ⟨b, 5, none⟩ = some z ∧ ∀ o, w.frozen? ⟨b, o, none⟩ = false := by
  have hb : IBlk b 33 (.int .i64 I.kind) (.int .i64 I.cap) x y (.int .i64 I.size) z w := h
  exact ⟨hb.box.c2, hb.box.c3, hb.box.c5, hb.free⟩
theorem objB_2 {I : In} {b : Nat} {w : World} {x y z : Value} (h : w.heap[b]? = some (objB I x y z)) : w.cell? ⟨b, 2, none⟩ = some x ∧ w.cell? ⟨b, 3, none⟩ = some y ∧ w.cell? ⟨b, 5, none⟩ = some z ∧ ∀ o, w.frozen? ⟨b, o, none⟩ = false := by
  have hb : IBlk b 36 (.int .i64 I.kind) (.int .i64 I.cap) x y (.int .i64 I.size) z w := h
  exact ⟨hb.box.c2, hb.box.c3, hb.box.c5, hb.free⟩
/-- The first loop's region. -/
def cfg1 (W0 : World) (bA bB B : Nat) (I : In) (k : Nat) (va vb : Value) (p : Int × Int) (F0 : Nat → Option Lst) : Cfg :=
  { B := B, W0 := W0, bA := bA, bB := bB, OA := fun v => objA I v (.slice none 0 0) (.slice none 0 0), OB := fun v => objB I v (.slice none 0 0) (.slice none 0 0), va := va, vb := vb, k := k, XA := fl2 (I.items.take k), XB := fl2 (I.items.take k), TA := 70, TB := 64, sz := 2, ld1 := 1, ld2 := 10, o1 := 200, o2 := 201, b1 := 7, b2 := 12, p1 := 8, p2 := 13, s1 := 15, s2 := 17, do1 := 300, do2 := 301, db1 := 46, db2 := 51, dp1 := 47, dp2 := 52, own := false, TO := 0, no := 0, co := [], l1 := 100, l2 := 101, NA := fun _ => [.int .i64 p.1, .int .i64 p.2], F0 := F0 }
theorem cfg1_wf {W0 : World} {bA bB B : Nat} {I : In} {k : Nat} {va vb : Value} {p : Int × Int} {F0 : Nat → Option Lst} (h1 : bA < bB) (h2 : bB < B) : (cfg1 W0 bA bB B I k va vb p F0).Wf :=
  ⟨by simp [cfg1], by simp [cfg1], by simp [cfg1], by simp [cfg1], ⟨h1, h2⟩⟩
/-- The lists of numbers so far: the square's rows. -/
structure St2 (bA bB B : Nat) (I : In) (va vb : Value) (W1 : World) (k : Nat) (xa xb : Value) (ua ub : List Value) (f : Nat → Option Lst) (wr : World) : Prop where
  mk ::
  a : wr.heap[bA]? = some (objA I va xa (.slice none 0 0))
  b : wr.heap[bB]? = some (objB I vb xb (.slice none 0 0))
  bag : Bag B wr f
  f0 : f 0 = some ⟨xa, 68, 1, k, ua⟩
  f1 : f 1 = some ⟨xb, 68, 1, k, ub⟩
  la : ua.length = k
  lb : ub.length = k
  rows : ∀ (i : Nat) (r : List Int), i < k → I.cut.cost[i]? = some r → (∃ u, ua[i]? = some u ∧ f (7 + 2 * i) = some ⟨u, 2, 1, r.length, nl r⟩) ∧ (∃ u, ub[i]? = some u ∧ f (8 + 2 * i) = some ⟨u, 2, 1, r.length, nl r⟩)
  be : Keeps bA bB B W1 wr
theorem cut_cost {I : In} {k : Nat} {r : List Int} (h : I.cost[k]? = some r) (hk : k < 70) : I.cut.cost[k]? = some (r.take 70) := by
  show ((I.cost.take 70).map (fun r => r.take 70))[k]? = _
  rw [List.getElem?_map, List.getElem?_take, if_pos hk, h]
  rfl
theorem cut_sets {I : In} {k : Nat} {s : Int × List Int} (h : I.sets[k]? = some s) (hk : k < 40) : I.cut.sets[k]? = some (s.1, s.2.take 40) := by
  show ((I.sets.take 40).map (fun s => (s.1, s.2.take 40)))[k]? = _
  rw [List.getElem?_map, List.getElem?_take, if_pos hk, h]
  rfl
/-- The second loop's region. -/
def cfg2 (W1 : World) (bA bB B : Nat) (I : In) (va vb : Value) (k : Nat) (xa xb : Value) (ua ub : List Value) (r : List Int) (F0 : Nat → Option Lst) : Cfg :=
  { B := B, W0 := W1, bA := bA, bB := bB, OA := fun v => objA I va v (.slice none 0 0), OB := fun v => objB I vb v (.slice none 0 0), va := xa, vb := xb, k := k, XA := ua, XB := ub, TA := 68, TB := 68, sz := 1, ld1 := 1, ld2 := 7, o1 := 3, o2 := 9, b1 := 4, b2 := 10, p1 := 5, p2 := 11, s1 := 13, s2 := 15, do1 := 76, do2 := 82, db1 := 77, db2 := 83, dp1 := 78, dp2 := 84, own := true, TO := 2, no := r.length, co := nl r, l1 := 7 + 2 * k, l2 := 8 + 2 * k, NA := fun u => [u], F0 := F0 }
theorem cfg2_wf {W1 : World} {bA bB B : Nat} {I : In} {va vb : Value} {k : Nat} {xa xb : Value} {ua ub : List Value} {r : List Int} {F0 : Nat → Option Lst} (h1 : bA < bB) (h2 : bB < B) : (cfg2 W1 bA bB B I va vb k xa xb ua ub r F0).Wf :=
  ⟨by simp [cfg2], by simp [cfg2], by simp [cfg2], by simp [cfg2]; omega, ⟨h1, h2⟩⟩
/-- The sets so far. -/
structure St3 (bA bB B : Nat) (I : In) (va vb xa xb : Value) (W2 : World) (k : Nat) (za zb : Value) (ua ub : List Value) (f : Nat → Option Lst) (wr : World) : Prop where
  mk ::
  a : wr.heap[bA]? = some (objA I va xa za)
  b : wr.heap[bB]? = some (objB I vb xb zb)
  bag : Bag B wr f
  f0 : f 0 = some ⟨za, 71, 2, k, flS (I.cut.sets.take k) ua⟩
  f1 : f 1 = some ⟨zb, 72, 2, k, flS (I.cut.sets.take k) ub⟩
  la : ua.length = k
  lb : ub.length = k
  rows : ∀ (i : Nat) (s : Int × List Int), i < k → I.cut.sets[i]? = some s → (∃ u, ua[i]? = some u ∧ f (7 + 2 * i) = some ⟨u, 3, 1, s.2.length, nl s.2⟩) ∧ (∃ u, ub[i]? = some u ∧ f (8 + 2 * i) = some ⟨u, 3, 1, s.2.length, nl s.2⟩)
  be : Keeps bA bB B W2 wr
/-- The third loop's region. -/
def cfg3 (W2 : World) (bA bB B : Nat) (I : In) (va vb xa xb : Value) (k : Nat) (za zb : Value) (ua ub : List Value) (s : Int × List Int) (F0 : Nat → Option Lst) : Cfg :=
  { B := B, W0 := W2, bA := bA, bB := bB, OA := fun v => objA I va xa v, OB := fun v => objB I vb xb v, va := za, vb := zb, k := k, XA := flS (I.cut.sets.take k) ua, XB := flS (I.cut.sets.take k) ub, TA := 71, TB := 72, sz := 2, ld1 := 1, ld2 := 10, o1 := 5, o2 := 14, b1 := 7, b2 := 16, p1 := 8, p2 := 17, s1 := 19, s2 := 21, do1 := 112, do2 := 121, db1 := 114, db2 := 123, dp1 := 115, dp2 := 124, own := true, TO := 3, no := s.2.length, co := nl s.2, l1 := 7 + 2 * k, l2 := 8 + 2 * k, NA := fun u => [.int .i64 s.1, u], F0 := F0 }
theorem cfg3_wf {W2 : World} {bA bB B : Nat} {I : In} {va vb xa xb : Value} {k : Nat} {za zb : Value} {ua ub : List Value} {s : Int × List Int} {F0 : Nat → Option Lst} (h1 : bA < bB) (h2 : bB < B) : (cfg3 W2 bA bB B I va vb xa xb k za zb ua ub s F0).Wf :=
  ⟨by simp [cfg3], by simp [cfg3], by simp [cfg3], by simp [cfg3]; omega, ⟨h1, h2⟩⟩
/-- What is made for the program: lists of its own. -/
structure MadeA (lo : Nat) (w : World) (vi vc vs : Value) (I : In) (uc us : List Value) : Prop where
  mk ::
  items : w.ownsRow lo 70 2 vi I.items.length (fl2 I.items)
  clen : uc.length = I.cost.length
  cost : w.ownsRow lo 68 1 vc I.cost.length uc
  rows : ∀ (i : Nat) (r : List Int) (u : Value), I.cost[i]? = some r → uc[i]? = some u → w.ownsRow lo 2 1 u r.length (nl r) ∧ ∀ q, u.ownBlock = some q → vc.ownBlock ≠ some q
  slen : us.length = I.sets.length
  sets : w.ownsRow lo 71 2 vs I.sets.length (flS I.sets us)
  elems : ∀ (i : Nat) (s : Int × List Int) (u : Value), I.sets[i]? = some s → us[i]? = some u → w.ownsRow lo 3 1 u s.2.length (nl s.2) ∧ ∀ q, u.ownBlock = some q → vs.ownBlock ≠ some q
namespace MadeA
variable {lo : Nat} {w w' : World} {vi vc vs : Value} {I : In} {uc us : List Value}
theorem next (h : MadeA lo w vi vc vs I uc us) (hb : Below w.heap.size w w') : MadeA lo w' vi vc vs I uc us :=
  ⟨own_next h.items hb, h.clen, own_next h.cost hb, fun i r u a b => ⟨own_next (h.rows i r u a b).1 hb, (h.rows i r u a b).2⟩, h.slen, own_next h.sets hb, fun i r u a b => ⟨own_next (h.elems i r u a b).1 hb, (h.elems i r u a b).2⟩⟩
theorem low (h : MadeA lo w vi vc vs I uc us) {a : Addr} (ha : a.block < lo) (v : Value) : MadeA lo (w.setCell a v) vi vc vs I uc us :=
  ⟨ownsRow_setCell_below h.items ha v, h.clen, ownsRow_setCell_below h.cost ha v, fun i r u a' b => ⟨ownsRow_setCell_below (h.rows i r u a' b).1 ha v, (h.rows i r u a' b).2⟩, h.slen, ownsRow_setCell_below h.sets ha v, fun i r u a' b => ⟨ownsRow_setCell_below (h.elems i r u a' b).1 ha v, (h.elems i r u a' b).2⟩⟩
theorem mono {lo' : Nat} (h : MadeA lo w vi vc vs I uc us) (hl : lo' ≤ lo) : MadeA lo' w vi vc vs I uc us :=
  ⟨h.items.mono hl, h.clen, h.cost.mono hl, fun i r u a b => ⟨(h.rows i r u a b).1.mono hl, (h.rows i r u a b).2⟩, h.slen, h.sets.mono hl, fun i r u a b => ⟨(h.elems i r u a b).1.mono hl, (h.elems i r u a b).2⟩⟩
theorem ins (h : MadeA lo w vi vc vs I uc us) : Ins (fun q => lo ≤ q) (fun q => lo ≤ q) w (inV I vi vc vs) I := by
  refine ⟨⟨vi, vc, vs, uc, us, rfl, (lies_of_own h.items).imp fun q hq => (h.items.lt q hq).1, ⟨h.clen, (lies_of_own h.cost).imp fun q hq => (h.cost.lt q hq).1, fun i r v hr hv => ?_⟩, ⟨h.slen, (lies_of_own h.sets).imp fun q hq => (h.sets.lt q hq).1, fun i s v hs hv => ?_⟩⟩⟩
  · exact ints_of_own (h.rows i r v hr hv).1 rfl (fun q hq => hq)
  · exact ints_of_own (h.elems i s v hs hv).1 rfl (fun q hq => hq)
end MadeA
theorem Ins.low {lo : Nat} {w : World} {v : Value} {I : In} (h : Ins (fun q => lo ≤ q) (fun q => lo ≤ q) w v I) {a : Addr} (ha : a.block < lo) (x : Value) : Ins (fun q => lo ≤ q) (fun q => lo ≤ q) (w.setCell a x) v I :=
  h.held (set_held fun b hb => by omega) (set_held fun b hb => by omega)
/-- What insts answers. -/
def IsInsts (I : In) (w : World) (e : Ending) (w' : World) : Prop :=
  ∃ vi vc vs uc us vj vd vt, e = .returned (.tuple #[inV I.cut vi vc vs, inV I.cut vj vd vt]) ∧ MadeA w.heap.size w' vi vc vs I.cut uc us ∧ Ins (fun q => w.heap.size ≤ q) (fun q => w.heap.size ≤ q) w' (inV I.cut vj vd vt) I.cut ∧ Below w.heap.size w w'
--PLAN1
def planM1 (H yb : Nat) (p : Int × Int) (va vb : Value) : Plan := { ks := [0, 0, 0, 0, 0, 0, 0, 2, 2, 0, 0, 0, 2, 2, 0, 2, 0, 2], ds := [39, 40, 41, 42, 43, 44, 45, 46, 47, 48, 49, 50, 51, 52, 53, 0, 54, 0], vs := [.pointer (some ⟨H + 1 + 1 + 1, 2, none⟩), va, .pointer (some ⟨yb, 0, none⟩), .int .i64 p.1, .pointer (some ⟨yb, 1, none⟩), .int .i64 p.2, .agg #[.int .i64 p.1, .int .i64 p.2], undef, undef, .pointer (some ⟨H + 1 + 1 + 1 + 1, 2, none⟩), vb, .agg #[.int .i64 p.1, .int .i64 p.2], undef, undef, .pointer (some ⟨H + 1 + 1 + 1, 2, none⟩), undef, .pointer (some ⟨H + 1 + 1 + 1 + 1, 2, none⟩), undef], ss := [0, 0, 0, 0, 0, 0, 0, 0, 0, 0, 0, 0, 0, 0, 0, 0, 0, 0], zs := [#[], #[], #[], #[], #[], #[], #[], #[], #[], #[], #[], #[], #[], #[], #[], #[], #[], #[]], fs := [#[], #[], #[], #[], #[], #[], #[], #[], #[], #[], #[], #[], #[], #[], #[], #[], #[], #[]], ts := [0, 0, 0, 0, 0, 0, 0, 0, 0, 0, 0, 0, 0, 0, 0, 0, 0, 0] }
--PLAN1END
--PLAN2
def planM2 (H : Nat) (xa xb sr : Value) : Plan := { ks := [0, 0, 0, 2, 2, 2, 0, 0, 0, 2, 2, 2, 0, 2, 0, 2], ds := [73, 74, 75, 76, 77, 78, 79, 80, 81, 82, 83, 84, 85, 0, 86, 0], vs := [.pointer (some ⟨H + 1 + 1 + 1, 3, none⟩), xa, sr, undef, undef, undef, .pointer (some ⟨H + 1 + 1 + 1 + 1, 3, none⟩), xb, sr, undef, undef, undef, .pointer (some ⟨H + 1 + 1 + 1, 3, none⟩), undef, .pointer (some ⟨H + 1 + 1 + 1 + 1, 3, none⟩), undef], ss := [0, 0, 0, 0, 0, 0, 0, 0, 0, 0, 0, 0, 0, 0, 0, 0], zs := [#[], #[], #[], #[], #[], #[], #[], #[], #[], #[], #[], #[], #[], #[], #[], #[]], fs := [#[], #[], #[], #[], #[], #[], #[], #[], #[], #[], #[], #[], #[], #[], #[], #[]], ts := [0, 0, 0, 0, 0, 0, 0, 0, 0, 0, 0, 0, 0, 0, 0, 0] }
--PLAN2END
--PLAN3
def planM3 (H yb : Nat) (za zb sr : Value) (s : Int × List Int) : Plan := { ks := [0, 0, 0, 0, 0, 2, 2, 2, 2, 0, 0, 0, 0, 0, 2, 2, 2, 2, 0, 2, 0, 2], ds := [107, 108, 109, 110, 111, 112, 113, 114, 115, 116, 117, 118, 119, 120, 121, 122, 123, 124, 125, 0, 126, 0], vs := [.pointer (some ⟨H + 1 + 1 + 1, 5, none⟩), za, .pointer (some ⟨yb, 0, none⟩), .int .i64 s.1, sr, undef, undef, undef, undef, .pointer (some ⟨H + 1 + 1 + 1 + 1, 5, none⟩), zb, .pointer (some ⟨yb, 0, none⟩), .int .i64 s.1, sr, undef, undef, undef, undef, .pointer (some ⟨H + 1 + 1 + 1, 5, none⟩), undef, .pointer (some ⟨H + 1 + 1 + 1 + 1, 5, none⟩), undef], ss := [0, 0, 0, 0, 0, 0, 0, 0, 0, 0, 0, 0, 0, 0, 0, 0, 0, 0, 0, 0, 0, 0], zs := [#[], #[], #[], #[], #[], #[], #[], #[], #[], #[], #[], #[], #[], #[], #[], #[], #[], #[], #[], #[], #[], #[]], fs := [#[], #[], #[], #[], #[], #[], #[], #[], #[], #[], #[], #[], #[], #[], #[], #[], #[], #[], #[], #[], #[], #[]], ts := [0, 0, 0, 0, 0, 0, 0, 0, 0, 0, 0, 0, 0, 0, 0, 0, 0, 0, 0, 0, 0, 0] }
--PLAN3END

set_option maxHeartbeats 2000000 in
theorem insts_any (F G : Nat → Prop) (I : In) (v : Value) (w : World) (h : Ins F G w v I) : Calls Tryz.prog 16 #[v] w (IsInsts I w) := by
  unfold IsInsts
  obtain ⟨vi, vc, vs, uc, us, rfl, hi, hc, hs⟩ := h.form
  obtain ⟨A0, C0, rfl, k0, m0⟩ := hi.form
  obtain ⟨A, C, rfl, k1, m1⟩ := hc.form
  obtain ⟨A2, C2, rfl, k2, m2⟩ := hs.form
  unfold maxLen at m0 m1 m2
  obtain ⟨ii1, ii2, ii3, ii4, ii5⟩ := info_item
  obtain ⟨jj1, jj2, jj3, jj4, jj5⟩ := info_pair
  obtain ⟨nn1, nn2, nn3, nn4, nn5⟩ := info_num
  obtain ⟨rr1, rr2, rr3, rr4, rr5⟩ := info_row
  obtain ⟨tt1, tt2, tt3, tt4, tt5⟩ := info_int
  obtain ⟨ss1, ss2, ss3, ss4, ss5⟩ := info_set
  obtain ⟨dd1, dd2, dd3, dd4, dd5⟩ := info_dset
  have HI := Lib.hid hi
  have HC := Lib.hid hc
  have HS := Lib.hid hs
  obtain ⟨L, eL⟩ : ∃ L, min I.items.length 40 = L := ⟨_, rfl⟩
  have hL : (min (I.items.length : Int) 40).toNat = L := by omega
  have hL1 : L ≤ I.items.length := by omega
  have hL2 : L ≤ 40 := by omega
  have hL3 : (0 : Int) ≤ min (I.items.length : Int) 40 := by omega
  have hL4 : min (I.items.length : Int) 40 ≤ (C0 : Int) := by omega
  obtain ⟨W0, hW0⟩ : ∃ q, q = (((((w.alloc (.cells #[.int .i64 I.kind, .int .i64 I.cap, .slice A0 I.items.length C0, .slice A I.cost.length C, .int .i64 I.size, .slice A2 I.sets.length C2] 58)).alloc (.cells #[.int .i64 0, .int .i64 0, .slice none 0 0, .slice none 0 0, .int .i64 0, .slice none 0 0] 33)).alloc (.cells #[.int .i64 0, .int .i64 0, .slice none 0 0, .slice none 0 0, .int .i64 0, .slice none 0 0] 36)).alloc (.cells #[.int .i64 I.kind, .int .i64 I.cap, .slice none 0 0, .slice none 0 0, .int .i64 I.size, .slice none 0 0] 33)).alloc (.cells #[.int .i64 I.kind, .int .i64 I.cap, .slice none 0 0, .slice none 0 0, .int .i64 I.size, .slice none 0 0] 36)) := ⟨_, rfl⟩
  have hsz : W0.heap.size = w.heap.size + 1 + 1 + 1 + 1 + 1 := by rw [hW0]; simp
  have HBw : Hid (Below w.heap.size w W0) := by
    rw [hW0]
    exact ((((new_below w _).alloc (by simp) _).alloc (by simp; omega) _).alloc (by simp; omega) _).alloc (by simp; omega) _
  have hX : IBlk w.heap.size 58 (.int .i64 I.kind) (.int .i64 I.cap) (.slice A0 I.items.length C0) (.slice A I.cost.length C) (.int .i64 I.size) (.slice A2 I.sets.length C2) W0 := by
    rw [hW0]
    exact ((((iblk_new w _ _ _ _ _ _ _).next (new_below _ _)).next (new_below _ _)).next (new_below _ _)).next (new_below _ _)
  have hRA : IBlk (w.heap.size + 1) 33 (.int .i64 0) (.int .i64 0) (.slice none 0 0) (.slice none 0 0) (.int .i64 0) (.slice none 0 0) W0 := by
    rw [hW0]
    have h0 := iblk_new (w.alloc (.cells #[.int .i64 I.kind, .int .i64 I.cap, .slice A0 I.items.length C0, .slice A I.cost.length C, .int .i64 I.size, .slice A2 I.sets.length C2] 58)) (.int .i64 0) (.int .i64 0) (.slice none 0 0) (.slice none 0 0) (.int .i64 0) (.slice none 0 0) 33
    rw [World.size_alloc] at h0
    exact ((h0.next (new_below _ _)).next (new_below _ _)).next (new_below _ _)
  have hRB : IBlk (w.heap.size + 1 + 1) 36 (.int .i64 0) (.int .i64 0) (.slice none 0 0) (.slice none 0 0) (.int .i64 0) (.slice none 0 0) W0 := by
    rw [hW0]
    have h0 := iblk_new ((w.alloc (.cells #[.int .i64 I.kind, .int .i64 I.cap, .slice A0 I.items.length C0, .slice A I.cost.length C, .int .i64 I.size, .slice A2 I.sets.length C2] 58)).alloc (.cells #[.int .i64 0, .int .i64 0, .slice none 0 0, .slice none 0 0, .int .i64 0, .slice none 0 0] 33)) (.int .i64 0) (.int .i64 0) (.slice none 0 0) (.slice none 0 0) (.int .i64 0) (.slice none 0 0) 36
    rw [World.size_alloc, World.size_alloc] at h0
    exact (h0.next (new_below _ _)).next (new_below _ _)
  have hSA : IBlk (w.heap.size + 1 + 1 + 1) 33 (.int .i64 I.kind) (.int .i64 I.cap) (.slice none 0 0) (.slice none 0 0) (.int .i64 I.size) (.slice none 0 0) W0 := by
    rw [hW0]
    have h0 := iblk_new (((w.alloc (.cells #[.int .i64 I.kind, .int .i64 I.cap, .slice A0 I.items.length C0, .slice A I.cost.length C, .int .i64 I.size, .slice A2 I.sets.length C2] 58)).alloc (.cells #[.int .i64 0, .int .i64 0, .slice none 0 0, .slice none 0 0, .int .i64 0, .slice none 0 0] 33)).alloc (.cells #[.int .i64 0, .int .i64 0, .slice none 0 0, .slice none 0 0, .int .i64 0, .slice none 0 0] 36)) (.int .i64 I.kind) (.int .i64 I.cap) (.slice none 0 0) (.slice none 0 0) (.int .i64 I.size) (.slice none 0 0) 33
    rw [World.size_alloc, World.size_alloc, World.size_alloc] at h0
    exact h0.next (new_below _ _)
  have hSB : IBlk (w.heap.size + 1 + 1 + 1 + 1) 36 (.int .i64 I.kind) (.int .i64 I.cap) (.slice none 0 0) (.slice none 0 0) (.int .i64 I.size) (.slice none 0 0) W0 := by
    rw [hW0]
    have h0 := iblk_new ((((w.alloc (.cells #[.int .i64 I.kind, .int .i64 I.cap, .slice A0 I.items.length C0, .slice A I.cost.length C, .int .i64 I.size, .slice A2 I.sets.length C2] 58)).alloc (.cells #[.int .i64 0, .int .i64 0, .slice none 0 0, .slice none 0 0, .int .i64 0, .slice none 0 0] 33)).alloc (.cells #[.int .i64 0, .int .i64 0, .slice none 0 0, .slice none 0 0, .int .i64 0, .slice none 0 0] 36)).alloc (.cells #[.int .i64 I.kind, .int .i64 I.cap, .slice none 0 0, .slice none 0 0, .int .i64 I.size, .slice none 0 0] 33)) (.int .i64 I.kind) (.int .i64 I.cap) (.slice none 0 0) (.slice none 0 0) (.int .i64 I.size) (.slice none 0 0) 36
    rw [World.size_alloc, World.size_alloc, World.size_alloc, World.size_alloc] at h0
    exact h0
  have HX := Lib.hid hX
  have HRA := Lib.hid hRA
  have HRB := Lib.hid hRB
  have HSA := Lib.hid hSA
  have HSB := Lib.hid hSB
  clear h hi hc hs hX hRA hRB hSA hSB
  go_enter Tryz.func16, Tryz.ntmps16
  go_wp2
  rw [← hW0]
  have HSZ := Lib.hid hsz
  clear hW0 hsz hL hL3 hL4
  go_loopw [35, 7] (fun i _ wr => ∃ (k : Nat) (va vb : Value) (f : Nat → Option Lst), k ≤ L ∧ i = .int .i64 (k : Nat) ∧ Hid (St1 (w.heap.size + 1 + 1 + 1) (w.heap.size + 1 + 1 + 1 + 1) (w.heap.size + 1 + 1 + 1 + 1 + 1) I W0 k va vb f wr)) (fun i _ _ => L - (intOf i).toNat)
  case atStart => exact ⟨0, .slice none 0 0, .slice none 0 0, fun i => if i = 0 then some ⟨.slice none 0 0, 70, 2, 0, []⟩ else if i = 1 then some ⟨.slice none 0 0, 64, 2, 0, []⟩ else none, by omega, rfl, ⟨HSA.out, HSB.out, bag_none _ _ _ _ _ _, rfl, rfl, Keeps.refl _ _ _ _⟩⟩
  case round =>
    obtain ⟨k, va, vb, f, hk, rfl, hS⟩ := hrel
    have hBr := Lib.hid (hS.out.be.below (M := w.heap.size + 1 + 1) (by omega) (by omega) (by omega))
    obtain ⟨x0, x1, x2, x3, x4, x5⟩ := (HX.out.below hBr.out (by omega)).box
    by_cases hlt : k < L
    · obtain ⟨b, off, p, rfl, _, hb, hp, c0, c1⟩ := (HI.out.next (HBw.out.trans (hBr.out.mono (by omega)))).get (i := k) (by omega)
      have hbl : b < wr.heap.size := cell_lt c0
      have hbs : w.heap.size + 1 + 1 + 1 + 1 + 1 ≤ wr.heap.size := by have := HSZ.out; have := hS.out.be.size; omega
      have c01 : (0 : Int) ≤ (k : Int) := by omega
      have c02 : (k : Int) < (L : Int) := by omega
      have HP := Lib.hid hp
      have HY : Hid (Ap (cfg1 W0 (w.heap.size + 1 + 1 + 1) (w.heap.size + 1 + 1 + 1 + 1) (w.heap.size + 1 + 1 + 1 + 1 + 1) I k va vb p (upd f 6 (some ⟨.slice (some ⟨wr.heap.size, 0, none⟩) 1 1, 64, 2, 1, [.int .i64 p.1, .int .i64 p.2]⟩))) (fun _ => false) (fun _ => undef) (upd f 6 (some ⟨.slice (some ⟨wr.heap.size, 0, none⟩) 1 1, 64, 2, 1, [.int .i64 p.1, .int .i64 p.2]⟩)) (wr.alloc (.cells #[.int .i64 p.1, .int .i64 p.2] 64)).drew) := by
        have nb := new_below wr (.cells #[.int .i64 p.1, .int .i64 p.2] 64)
        have hr : (wr.alloc (.cells #[.int .i64 p.1, .int .i64 p.2] 64)).ownsRow wr.heap.size 64 2 (.slice (some ⟨wr.heap.size, 0, none⟩) 1 1) 1 [.int .i64 p.1, .int .i64 p.2] := World.ownsRow_lit wr #[.int .i64 p.1, .int .i64 p.2] 1 (Nat.le_refl _) (by unfold maxLen; omega) rfl
        have hS := hS.out
        show Ap _ _ _ _ _
        refine Ap.start ?_ ?_ ?_ ?_ ?_ ?_ ?_ ?_ _
        · exact (nb.block _ (lt_of_block hS.a)).trans hS.a
        · exact (nb.block _ (lt_of_block hS.b)).trans hS.b
        · exact (hS.bag.push hbs nb (x := ⟨.slice (some ⟨wr.heap.size, 0, none⟩) 1 1, 64, 2, 1, [.int .i64 p.1, .int .i64 p.2]⟩) hr 6).next ((Below.refl _ _).drew)
        · exact hS.f0
        · exact hS.f1
        · exact fun _ _ _ => rfl
        · exact (hS.be.next hbs nb).next (Nat.le_trans hbs nb.size) ((Below.refl _ _).drew)
        · exact Nat.le_trans hbs nb.size
      clear hp hS
      go_wp2
      obtain ⟨yb, hyb⟩ : ∃ q, q = wr.heap.size := ⟨_, rfl⟩
      rw [← hyb] at HY ⊢
      have WF := Lib.hid (cfg1_wf (W0 := W0) (I := I) (k := k) (va := va) (vb := vb) (p := p) (F0 := upd f 6 (some ⟨.slice (some ⟨yb, 0, none⟩) 1 1, 64, 2, 1, [.int .i64 p.1, .int .i64 p.2]⟩)) (show w.heap.size + 1 + 1 + 1 < w.heap.size + 1 + 1 + 1 + 1 by omega) (show w.heap.size + 1 + 1 + 1 + 1 < w.heap.size + 1 + 1 + 1 + 1 + 1 by omega))
      clear hyb c0 c1 x0 x1 x2 x3 x4 x5
--REGION1
      have ok : (planM1 w.heap.size yb p va vb).ok = true := rfl
      refine region_inv (Inv := fun lq_ aq_ wr => ∃ (e : Nat → Bool) (t : Nat → Value), lq_ = #[e 0, e 1, e 2, e 3, e 4, e 5, e 6, e 7, e 8, e 9, e 10, e 11, e 12, e 13, e 14, e 15, e 16, e 17] ∧ aq_ = ⟨#[.agg #[.int .i64 I.kind, .int .i64 I.cap, .slice (some ⟨b, off, none⟩) I.items.length C0, .slice A I.cost.length C, .int .i64 I.size, .slice A2 I.sets.length C2], .pointer (some ⟨w.heap.size, 0, none⟩), .pointer (some ⟨w.heap.size + 1, 0, none⟩), .pointer (some ⟨w.heap.size + 1 + 1, 0, none⟩), .pointer (some ⟨w.heap.size + 1 + 1 + 1, 0, none⟩), .pointer (some ⟨w.heap.size + 1 + 1 + 1 + 1, 0, none⟩), undef, .pointer (some ⟨yb, 0, none⟩), undef, undef, undef, undef, undef, .pointer (some ⟨w.heap.size, 0, none⟩), .int .i64 I.kind, .pointer (some ⟨w.heap.size, 1, none⟩), .int .i64 I.cap, .pointer (some ⟨w.heap.size, 4, none⟩), .int .i64 I.size, .agg #[.int .i64 I.kind, .int .i64 I.cap, .slice none 0 0, .slice none 0 0, .int .i64 I.size, .slice none 0 0], .pointer (some ⟨w.heap.size, 0, none⟩), .int .i64 I.kind, .pointer (some ⟨w.heap.size, 1, none⟩), .int .i64 I.cap, .pointer (some ⟨w.heap.size, 4, none⟩), .int .i64 I.size, .agg #[.int .i64 I.kind, .int .i64 I.cap, .slice none 0 0, .slice none 0 0, .int .i64 I.size, .slice none 0 0], .pointer (some ⟨w.heap.size, 2, none⟩), .slice (some ⟨b, off, none⟩) I.items.length C0, .pointer (some ⟨w.heap.size, 2, none⟩), .slice (some ⟨b, off, none⟩) I.items.length C0, .int .i64 (I.items.length : Int), .int .i64 (min ((I.items.length : Int)) 40), .slice (some ⟨b, off, none⟩) L C0, .int .i64 (L : Int), .int .i64 (k : Int), .bool true, .pointer (some ⟨b, off + k * 2, none⟩), .agg #[.int .i64 p.fst, .int .i64 p.snd], t 39, t 40, t 41, t 42, t 43, t 44, t 45, t 46, t 47, t 48, t 49, t 50, t 51, t 52, t 53, t 54, u55, undef, undef, undef, undef, undef, undef, undef, undef, undef, undef, undef, undef, undef, undef, undef, undef, undef, undef, undef, undef, undef, undef, undef, undef, undef, undef, undef, undef, undef, undef, undef, undef, undef, undef, undef, undef, undef, undef, undef, undef, undef, undef, undef, undef, undef, undef, undef, undef, undef, undef, undef, undef, undef, undef, undef, undef, undef, undef, undef, undef, undef, undef, undef, undef, undef, undef, undef, undef, undef, undef, undef, undef, undef, undef], []⟩ ∧ Vals (planM1 w.heap.size yb p va vb) e t ∧ (∃ fq, Ap (cfg1 W0 (w.heap.size + 1 + 1 + 1) (w.heap.size + 1 + 1 + 1 + 1) (w.heap.size + 1 + 1 + 1 + 1 + 1) I k va vb p (upd f 6 (some ⟨.slice (some ⟨yb, 0, none⟩) 1 1, 64, 2, 1, [.int .i64 p.1, .int .i64 p.2]⟩))) e t fq wr)) (by kernel_rfl) ?step ?start ?done
      case start => exact ⟨fun _ => false, fun j => if j = 39 then u39 else if j = 40 then u40 else if j = 41 then u41 else if j = 42 then u42 else if j = 43 then u43 else if j = 44 then u44 else if j = 45 then u45 else if j = 46 then u46 else if j = 47 then u47 else if j = 48 then u48 else if j = 49 then u49 else if j = 50 then u50 else if j = 51 then u51 else if j = 52 then u52 else if j = 53 then u53 else if j = 54 then u54 else undef, rfl, rfl, Vals.start _ _, ⟨_, HY.out.tt _⟩⟩
      case step =>
        rintro lq_ aq_ wr ⟨e, t, rfl, rfl, hs, hm⟩ q_ o ho hi ha
        match q_, ho, hi, ha with
        | 0, ho, hi, ha =>
          obtain rfl : _ = o := Option.some.inj ho
          have hi : e 0 = false := hi
          refine wpOp_step (i := 0) rfl (fun K hK => ?_)
          have HK : Shut (∀ a w, _ → K a w) := hK
          clear hK ho
          have HS := Lib.hid hs
          have HM := Lib.hid hm
          have HI := Lib.hid hi
          clear hs ha hm hi
          go_simp
          exact HK.out _ _ ⟨upd e 0 true, upd t 39 _, rfl, rfl, by exact HS.out.put ok (i := 0) rfl, (by obtain ⟨f_, q_⟩ := HM.out; exact ⟨f_, q_.of rfl rfl rfl rfl rfl rfl (fun _ => ⟨rfl, rfl⟩) (fun h_ => by first | exact h_ | rfl) (fun h_ => by first | exact h_ | rfl) rfl rfl rfl rfl rfl rfl⟩)⟩
        | 1, ho, hi, ha =>
          obtain rfl : _ = o := Option.some.inj ho
          have hi : e 1 = false := hi
          have T0 : t 39 = .pointer (some ⟨w.heap.size + 1 + 1 + 1, 2, none⟩) := hs.val 0 rfl (ha { on := 0, ground := .data } (by simp) rfl)
          have H0 := Lib.hid T0
          have xa_ : wr.cell? ⟨w.heap.size + 1 + 1 + 1, 2, none⟩ = some va := (by obtain ⟨f_, q_⟩ := hm; exact (objA_2 (q_.la hi)).1)
          refine wpOp_step (i := 1) rfl (fun K hK => ?_)
          have HK : Shut (∀ a w, _ → K a w) := hK
          clear hK ho
          have HS := Lib.hid hs
          have HM := Lib.hid hm
          have HI := Lib.hid hi
          clear hs ha hm hi
          go_simp
          exact HK.out _ _ ⟨upd e 1 true, upd (upd t 39 _) 40 _, rfl, rfl, by rw [upd_self H0.out]; exact HS.out.put ok (i := 1) rfl, (by obtain ⟨f_, q_⟩ := HM.out; exact ⟨f_, q_.of rfl rfl rfl rfl rfl rfl (fun _ => ⟨rfl, rfl⟩) (fun h_ => by first | exact h_ | rfl) (fun h_ => by first | exact h_ | rfl) rfl rfl rfl rfl rfl rfl⟩)⟩
        | 2, ho, hi, ha =>
          obtain rfl : _ = o := Option.some.inj ho
          have hi : e 2 = false := hi
          refine wpOp_step (i := 2) rfl (fun K hK => ?_)
          have HK : Shut (∀ a w, _ → K a w) := hK
          clear hK ho
          have HS := Lib.hid hs
          have HM := Lib.hid hm
          have HI := Lib.hid hi
          clear hs ha hm hi
          go_simp
          exact HK.out _ _ ⟨upd e 2 true, upd t 41 _, rfl, rfl, by exact HS.out.put ok (i := 2) rfl, (by obtain ⟨f_, q_⟩ := HM.out; exact ⟨f_, q_.of rfl rfl rfl rfl rfl rfl (fun _ => ⟨rfl, rfl⟩) (fun h_ => by first | exact h_ | rfl) (fun h_ => by first | exact h_ | rfl) rfl rfl rfl rfl rfl rfl⟩)⟩
        | 3, ho, hi, ha =>
          obtain rfl : _ = o := Option.some.inj ho
          have hi : e 3 = false := hi
          have T2 : t 41 = .pointer (some ⟨yb, 0, none⟩) := hs.val 2 rfl (ha { on := 2, ground := .data } (by simp) rfl)
          have H2 := Lib.hid T2
          obtain ⟨ya_, yb_⟩ : wr.cell? ⟨yb, 0, none⟩ = some (.int .i64 p.1) ∧ wr.cell? ⟨yb, 1, none⟩ = some (.int .i64 p.2) := (by obtain ⟨f_, q_⟩ := hm; exact q_.cells6 (fun h_ => by cases h_) rfl)
          refine wpOp_step (i := 3) rfl (fun K hK => ?_)
          have HK : Shut (∀ a w, _ → K a w) := hK
          clear hK ho
          have HS := Lib.hid hs
          have HM := Lib.hid hm
          have HI := Lib.hid hi
          clear hs ha hm hi
          go_simp
          exact HK.out _ _ ⟨upd e 3 true, upd (upd t 41 _) 42 _, rfl, rfl, by rw [upd_self H2.out]; exact HS.out.put ok (i := 3) rfl, (by obtain ⟨f_, q_⟩ := HM.out; exact ⟨f_, q_.of rfl rfl rfl rfl rfl rfl (fun _ => ⟨rfl, rfl⟩) (fun h_ => by first | exact h_ | rfl) (fun h_ => by first | exact h_ | rfl) rfl rfl rfl rfl rfl rfl⟩)⟩
        | 4, ho, hi, ha =>
          obtain rfl : _ = o := Option.some.inj ho
          have hi : e 4 = false := hi
          refine wpOp_step (i := 4) rfl (fun K hK => ?_)
          have HK : Shut (∀ a w, _ → K a w) := hK
          clear hK ho
          have HS := Lib.hid hs
          have HM := Lib.hid hm
          have HI := Lib.hid hi
          clear hs ha hm hi
          go_simp
          exact HK.out _ _ ⟨upd e 4 true, upd t 43 _, rfl, rfl, by exact HS.out.put ok (i := 4) rfl, (by obtain ⟨f_, q_⟩ := HM.out; exact ⟨f_, q_.of rfl rfl rfl rfl rfl rfl (fun _ => ⟨rfl, rfl⟩) (fun h_ => by first | exact h_ | rfl) (fun h_ => by first | exact h_ | rfl) rfl rfl rfl rfl rfl rfl⟩)⟩
        | 5, ho, hi, ha =>
          obtain rfl : _ = o := Option.some.inj ho
          have hi : e 5 = false := hi
          have T4 : t 43 = .pointer (some ⟨yb, 1, none⟩) := hs.val 4 rfl (ha { on := 4, ground := .data } (by simp) rfl)
          have H4 := Lib.hid T4
          obtain ⟨ya_, yb_⟩ : wr.cell? ⟨yb, 0, none⟩ = some (.int .i64 p.1) ∧ wr.cell? ⟨yb, 1, none⟩ = some (.int .i64 p.2) := (by obtain ⟨f_, q_⟩ := hm; exact q_.cells6 (fun h_ => by cases h_) rfl)
          refine wpOp_step (i := 5) rfl (fun K hK => ?_)
          have HK : Shut (∀ a w, _ → K a w) := hK
          clear hK ho
          have HS := Lib.hid hs
          have HM := Lib.hid hm
          have HI := Lib.hid hi
          clear hs ha hm hi
          go_simp
          exact HK.out _ _ ⟨upd e 5 true, upd (upd t 43 _) 44 _, rfl, rfl, by rw [upd_self H4.out]; exact HS.out.put ok (i := 5) rfl, (by obtain ⟨f_, q_⟩ := HM.out; exact ⟨f_, q_.of rfl rfl rfl rfl rfl rfl (fun _ => ⟨rfl, rfl⟩) (fun h_ => by first | exact h_ | rfl) (fun h_ => by first | exact h_ | rfl) rfl rfl rfl rfl rfl rfl⟩)⟩
        | 6, ho, hi, ha =>
          obtain rfl : _ = o := Option.some.inj ho
          have hi : e 6 = false := hi
          have T3 : t 42 = .int .i64 p.1 := hs.val 3 rfl (ha { on := 3, ground := .data } (by simp) rfl)
          have H3 := Lib.hid T3
          have T5 : t 44 = .int .i64 p.2 := hs.val 5 rfl (ha { on := 5, ground := .data } (by simp) rfl)
          have H5 := Lib.hid T5
          refine wpOp_step (i := 6) rfl (fun K hK => ?_)
          have HK : Shut (∀ a w, _ → K a w) := hK
          clear hK ho
          have HS := Lib.hid hs
          have HM := Lib.hid hm
          have HI := Lib.hid hi
          clear hs ha hm hi
          go_simp
          exact HK.out _ _ ⟨upd e 6 true, upd (upd (upd t 42 _) 44 _) 45 _, rfl, rfl, by rw [upd_self H3.out, upd_self H5.out]; exact HS.out.put ok (i := 6) rfl, (by obtain ⟨f_, q_⟩ := HM.out; exact ⟨f_, q_.of rfl rfl rfl rfl rfl rfl (fun _ => ⟨rfl, rfl⟩) (fun h_ => by first | exact h_ | rfl) (fun h_ => by first | exact h_ | rfl) rfl rfl rfl rfl rfl rfl⟩)⟩
        | 7, ho, hi, ha =>
          obtain rfl : _ = o := Option.some.inj ho
          have hi : e 7 = false := hi
          have T6 : t 45 = .agg #[.int .i64 p.1, .int .i64 p.2] := hs.val 6 rfl (ha { on := 6, ground := .data } (by simp) rfl)
          have H6 := Lib.hid T6
          refine wpOp_step (i := 7) rfl (fun K hK => ?_)
          have HK : Shut (∀ a w, _ → K a w) := hK
          clear hK ho
          have HS := Lib.hid hs
          have HM := Lib.hid hm
          have HI := Lib.hid hi
          clear hs ha hm hi
          go_simp
          exact HK.out _ _ ⟨upd e 7 true, upd (upd t 45 _) 46 _, rfl, rfl, by rw [upd_self H6.out]; exact HS.out.skip' (i := 7) rfl rfl, (by rw [upd_self H6.out]; obtain ⟨f_, q_⟩ := HM.out; exact ⟨_, q_.made1 (cs := #[.int .i64 p.1, .int .i64 p.2]) WF.out (fun h_ => by cases h_) rfl rfl⟩)⟩
        | 8, ho, hi, ha =>
          obtain rfl : _ = o := Option.some.inj ho
          have hi : e 8 = false := hi
          have d1 : e 1 = true := ha { on := 1, ground := .data } (by simp) rfl
          have d7 : e 7 = true := ha { on := 7, ground := .data } (by simp) rfl
          have TS_ : t 40 = va := hs.val 1 rfl d1
          obtain ⟨f_, q_⟩ := hm
          obtain ⟨hb4, g_, TX⟩ := q_.g1 d7
          have hO := q_.ownA hi
          have hN := (q_.bag.own 4 _ hb4).cells (g := g_) (by show (t 46).ownBlock = some g_; rw [show t 46 = _ from TX]; rfl)
          refine wpOp_step (i := 8) rfl (fun K hK => ?_)
          refine step_append_lies wr rfl (.tmp 40) (.tmp 46) 30 rfl (w.heap.size + 1 + 1 + 1 + 1 + 1) 70 ii1 (.agg #[.int .i64 0, .int .i64 0]) 2 16 Tryz.underlying30 ii2 ii3 ii4 ii5 rfl (by decide) va k (fl2 (I.items.take k)) TS_ hO ⟨g_, 0, none⟩ 1 1 [.int .i64 p.1, .int .i64 p.2] TX rfl hN (two_one _ _) (by omega) (by unfold maxLen; omega) (by omega) q_.sz wr.heap.size rfl ?_
          intro g' c' w' hown hgrow hat _
          exact hK _ _ ⟨upd e 8 true, upd t 47 _, rfl, rfl, hs.skip' (i := 8) rfl rfl, _, q_.app1 WF.out hi d7 hown hgrow hat⟩
        | 9, ho, hi, ha =>
          obtain rfl : _ = o := Option.some.inj ho
          have hi : e 9 = false := hi
          refine wpOp_step (i := 9) rfl (fun K hK => ?_)
          have HK : Shut (∀ a w, _ → K a w) := hK
          clear hK ho
          have HS := Lib.hid hs
          have HM := Lib.hid hm
          have HI := Lib.hid hi
          clear hs ha hm hi
          go_simp
          exact HK.out _ _ ⟨upd e 9 true, upd t 48 _, rfl, rfl, by exact HS.out.put ok (i := 9) rfl, (by obtain ⟨f_, q_⟩ := HM.out; exact ⟨f_, q_.of rfl rfl rfl rfl rfl rfl (fun _ => ⟨rfl, rfl⟩) (fun h_ => by first | exact h_ | rfl) (fun h_ => by first | exact h_ | rfl) rfl rfl rfl rfl rfl rfl⟩)⟩
        | 10, ho, hi, ha =>
          obtain rfl : _ = o := Option.some.inj ho
          have hi : e 10 = false := hi
          have T9 : t 48 = .pointer (some ⟨w.heap.size + 1 + 1 + 1 + 1, 2, none⟩) := hs.val 9 rfl (ha { on := 9, ground := .data } (by simp) rfl)
          have H9 := Lib.hid T9
          have xb_ : wr.cell? ⟨w.heap.size + 1 + 1 + 1 + 1, 2, none⟩ = some vb := (by obtain ⟨f_, q_⟩ := hm; exact (objB_2 (q_.lb hi)).1)
          refine wpOp_step (i := 10) rfl (fun K hK => ?_)
          have HK : Shut (∀ a w, _ → K a w) := hK
          clear hK ho
          have HS := Lib.hid hs
          have HM := Lib.hid hm
          have HI := Lib.hid hi
          clear hs ha hm hi
          go_simp
          exact HK.out _ _ ⟨upd e 10 true, upd (upd t 48 _) 49 _, rfl, rfl, by rw [upd_self H9.out]; exact HS.out.put ok (i := 10) rfl, (by obtain ⟨f_, q_⟩ := HM.out; exact ⟨f_, q_.of rfl rfl rfl rfl rfl rfl (fun _ => ⟨rfl, rfl⟩) (fun h_ => by first | exact h_ | rfl) (fun h_ => by first | exact h_ | rfl) rfl rfl rfl rfl rfl rfl⟩)⟩
        | 11, ho, hi, ha =>
          obtain rfl : _ = o := Option.some.inj ho
          have hi : e 11 = false := hi
          obtain ⟨ya_, yb_⟩ : wr.cell? ⟨yb, 0, none⟩ = some (.int .i64 p.1) ∧ wr.cell? ⟨yb, 1, none⟩ = some (.int .i64 p.2) := (by obtain ⟨f_, q_⟩ := hm; exact q_.cells6 (fun h_ => by cases h_) rfl)
          refine wpOp_step (i := 11) rfl (fun K hK => ?_)
          have HK : Shut (∀ a w, _ → K a w) := hK
          clear hK ho
          have HS := Lib.hid hs
          have HM := Lib.hid hm
          have HI := Lib.hid hi
          clear hs ha hm hi
          go_simp
          exact HK.out _ _ ⟨upd e 11 true, upd t 50 _, rfl, rfl, by exact HS.out.put ok (i := 11) rfl, (by obtain ⟨f_, q_⟩ := HM.out; exact ⟨f_, q_.of rfl rfl rfl rfl rfl rfl (fun _ => ⟨rfl, rfl⟩) (fun h_ => by first | exact h_ | rfl) (fun h_ => by first | exact h_ | rfl) rfl rfl rfl rfl rfl rfl⟩)⟩
        | 12, ho, hi, ha =>
          obtain rfl : _ = o := Option.some.inj ho
          have hi : e 12 = false := hi
          have T11 : t 50 = .agg #[.int .i64 p.1, .int .i64 p.2] := hs.val 11 rfl (ha { on := 11, ground := .data } (by simp) rfl)
          have H11 := Lib.hid T11
          refine wpOp_step (i := 12) rfl (fun K hK => ?_)
          have HK : Shut (∀ a w, _ → K a w) := hK
          clear hK ho
          have HS := Lib.hid hs
          have HM := Lib.hid hm
          have HI := Lib.hid hi
          clear hs ha hm hi
          go_simp
          exact HK.out _ _ ⟨upd e 12 true, upd (upd t 50 _) 51 _, rfl, rfl, by rw [upd_self H11.out]; exact HS.out.skip' (i := 12) rfl rfl, (by rw [upd_self H11.out]; obtain ⟨f_, q_⟩ := HM.out; exact ⟨_, q_.made2 (cs := #[.int .i64 p.1, .int .i64 p.2]) WF.out (fun h_ => by cases h_) rfl rfl⟩)⟩
        | 13, ho, hi, ha =>
          obtain rfl : _ = o := Option.some.inj ho
          have hi : e 13 = false := hi
          have d1 : e 10 = true := ha { on := 10, ground := .data } (by simp) rfl
          have d7 : e 12 = true := ha { on := 12, ground := .data } (by simp) rfl
          have TS_ : t 49 = vb := hs.val 10 rfl d1
          obtain ⟨f_, q_⟩ := hm
          obtain ⟨hb4, g_, TX⟩ := q_.g2 d7
          have hO := q_.ownB hi
          have hN := (q_.bag.own 5 _ hb4).cells (g := g_) (by show (t 51).ownBlock = some g_; rw [show t 51 = _ from TX]; rfl)
          refine wpOp_step (i := 13) rfl (fun K hK => ?_)
          refine step_append_lies wr rfl (.tmp 49) (.tmp 51) 22 rfl (w.heap.size + 1 + 1 + 1 + 1 + 1) 64 jj1 (.agg #[.int .i64 0, .int .i64 0]) 2 16 Tryz.underlying22 jj2 jj3 jj4 jj5 rfl (by decide) vb k (fl2 (I.items.take k)) TS_ hO ⟨g_, 0, none⟩ 1 1 [.int .i64 p.1, .int .i64 p.2] TX rfl hN (two_one _ _) (by omega) (by unfold maxLen; omega) (by omega) q_.sz wr.heap.size rfl ?_
          intro g' c' w' hown hgrow hat _
          exact hK _ _ ⟨upd e 13 true, upd t 52 _, rfl, rfl, hs.skip' (i := 13) rfl rfl, _, q_.app2 WF.out hi d7 hown hgrow hat⟩
        | 14, ho, hi, ha =>
          obtain rfl : _ = o := Option.some.inj ho
          have hi : e 14 = false := hi
          refine wpOp_step (i := 14) rfl (fun K hK => ?_)
          have HK : Shut (∀ a w, _ → K a w) := hK
          clear hK ho
          have HS := Lib.hid hs
          have HM := Lib.hid hm
          have HI := Lib.hid hi
          clear hs ha hm hi
          go_simp
          exact HK.out _ _ ⟨upd e 14 true, upd t 53 _, rfl, rfl, by exact HS.out.put ok (i := 14) rfl, (by obtain ⟨f_, q_⟩ := HM.out; exact ⟨f_, q_.of rfl rfl rfl rfl rfl rfl (fun _ => ⟨rfl, rfl⟩) (fun h_ => by first | exact h_ | rfl) (fun h_ => by first | exact h_ | rfl) rfl rfl rfl rfl rfl rfl⟩)⟩
        | 15, ho, hi, ha =>
          obtain rfl : _ = o := Option.some.inj ho
          have hi : e 15 = false := hi
          have T14 : t 53 = .pointer (some ⟨w.heap.size + 1 + 1 + 1, 2, none⟩) := hs.val 14 rfl (ha { on := 14, ground := .data } (by simp) rfl)
          have H14 := Lib.hid T14
          have DL : Hid (e 1 = true) := ha { on := 1, ground := .phase } (by simp) rfl
          have DP : Hid (e 8 = true) := ha { on := 8, ground := .data } (by simp) rfl
          obtain ⟨gs_, cs_, T47⟩ : ∃ g_ c_, t 47 = .slice (some ⟨g_, 0, none⟩) (k + 1) c_ := (by obtain ⟨f_, q_⟩ := hm; exact q_.shape1 DP.out)
          have H47 := Lib.hid T47
          have XB_ : ∃ v_, wr.heap[(w.heap.size + 1 + 1 + 1)]? = some ((fun v => objA I v (.slice none 0 0) (.slice none 0 0)) v_) := (by obtain ⟨f_, q_⟩ := hm; exact ⟨_, q_.xa⟩)
          obtain ⟨v_, XB_⟩ := XB_
          have XC := Lib.hid XB_
          obtain ⟨c2_, c3_, c5_, fr_⟩ := objA_2 XB_
          have cc_ := c2_
          have fc_ := fr_ 2
          clear fr_ XB_ c2_ c3_ c5_
          refine wpOp_step (i := 15) rfl (fun K hK => ?_)
          have HK : Shut (∀ a w, _ → K a w) := hK
          clear hK ho
          have HS := Lib.hid hs
          have HM := Lib.hid hm
          have HI := Lib.hid hi
          clear hs ha hm hi
          go_simp
          exact HK.out _ _ ⟨upd e 15 true, (upd (upd t 53 _) 47 _), rfl, rfl, by rw [upd_self H14.out, upd_self H47.out]; exact HS.out.skip (i := 15) rfl, (by rw [upd_self H14.out, upd_self H47.out]; obtain ⟨f_, q_⟩ := HM.out; exact ⟨f_, q_.st1 WF.out DL.out DP.out (o := 2) (by show (wr.setCell ⟨(w.heap.size + 1 + 1 + 1), 2, none⟩ _).heap[(w.heap.size + 1 + 1 + 1)]? = some ((fun v => objA I v (.slice none 0 0) (.slice none 0 0)) (t 47)); rw [H47.out]; exact heap_setCell_same wr _ 2 _ _ _ XC.out)⟩)⟩
        | 16, ho, hi, ha =>
          obtain rfl : _ = o := Option.some.inj ho
          have hi : e 16 = false := hi
          refine wpOp_step (i := 16) rfl (fun K hK => ?_)
          have HK : Shut (∀ a w, _ → K a w) := hK
          clear hK ho
          have HS := Lib.hid hs
          have HM := Lib.hid hm
          have HI := Lib.hid hi
          clear hs ha hm hi
          go_simp
          exact HK.out _ _ ⟨upd e 16 true, upd t 54 _, rfl, rfl, by exact HS.out.put ok (i := 16) rfl, (by obtain ⟨f_, q_⟩ := HM.out; exact ⟨f_, q_.of rfl rfl rfl rfl rfl rfl (fun _ => ⟨rfl, rfl⟩) (fun h_ => by first | exact h_ | rfl) (fun h_ => by first | exact h_ | rfl) rfl rfl rfl rfl rfl rfl⟩)⟩
        | 17, ho, hi, ha =>
          obtain rfl : _ = o := Option.some.inj ho
          have hi : e 17 = false := hi
          have T16 : t 54 = .pointer (some ⟨w.heap.size + 1 + 1 + 1 + 1, 2, none⟩) := hs.val 16 rfl (ha { on := 16, ground := .data } (by simp) rfl)
          have H16 := Lib.hid T16
          have DL : Hid (e 10 = true) := ha { on := 10, ground := .phase } (by simp) rfl
          have DP : Hid (e 13 = true) := ha { on := 13, ground := .data } (by simp) rfl
          obtain ⟨gs_, cs_, T52⟩ : ∃ g_ c_, t 52 = .slice (some ⟨g_, 0, none⟩) (k + 1) c_ := (by obtain ⟨f_, q_⟩ := hm; exact q_.shape2 DP.out)
          have H52 := Lib.hid T52
          have XB_ : ∃ v_, wr.heap[(w.heap.size + 1 + 1 + 1 + 1)]? = some ((fun v => objB I v (.slice none 0 0) (.slice none 0 0)) v_) := (by obtain ⟨f_, q_⟩ := hm; exact ⟨_, q_.xb⟩)
          obtain ⟨v_, XB_⟩ := XB_
          have XC := Lib.hid XB_
          obtain ⟨c2_, c3_, c5_, fr_⟩ := objB_2 XB_
          have cc_ := c2_
          have fc_ := fr_ 2
          clear fr_ XB_ c2_ c3_ c5_
          refine wpOp_step (i := 17) rfl (fun K hK => ?_)
          have HK : Shut (∀ a w, _ → K a w) := hK
          clear hK ho
          have HS := Lib.hid hs
          have HM := Lib.hid hm
          have HI := Lib.hid hi
          clear hs ha hm hi
          go_simp
          exact HK.out _ _ ⟨upd e 17 true, (upd (upd t 54 _) 52 _), rfl, rfl, by rw [upd_self H16.out, upd_self H52.out]; exact HS.out.skip (i := 17) rfl, (by rw [upd_self H16.out, upd_self H52.out]; obtain ⟨f_, q_⟩ := HM.out; exact ⟨f_, q_.st2 WF.out DL.out DP.out (o := 2) (by show (wr.setCell ⟨(w.heap.size + 1 + 1 + 1 + 1), 2, none⟩ _).heap[(w.heap.size + 1 + 1 + 1 + 1)]? = some ((fun v => objB I v (.slice none 0 0) (.slice none 0 0)) (t 52)); rw [H52.out]; exact heap_setCell_same wr _ 2 _ _ _ XC.out)⟩)⟩
        | k + 18, ho, hi, ha => simp at ho
      case done =>
        rintro lq_ aq_ wr ⟨e, t, rfl, rfl, hs, hm⟩ hr
        have hd := ready_done hr rfl (by decide +kernel)
--REGION1END
        obtain ⟨fq, q⟩ := hm
        have E : Hid (∃ va' vb' f', St1 (w.heap.size + 1 + 1 + 1) (w.heap.size + 1 + 1 + 1 + 1) (w.heap.size + 1 + 1 + 1 + 1 + 1) I W0 (k + 1) va' vb' f' wr) := by
          have q0 := q.f0
          have q1 := q.f1
          have xa := q.xa
          have xb := q.xb
          rw [show e (cfg1 W0 (w.heap.size + 1 + 1 + 1) (w.heap.size + 1 + 1 + 1 + 1) (w.heap.size + 1 + 1 + 1 + 1 + 1) I k va vb p (upd f 6 (some ⟨.slice (some ⟨yb, 0, none⟩) 1 1, 64, 2, 1, [.int .i64 p.1, .int .i64 p.2]⟩))).p1 = true from hd 8 (by decide), if_pos rfl] at q0
          rw [show e (cfg1 W0 (w.heap.size + 1 + 1 + 1) (w.heap.size + 1 + 1 + 1 + 1) (w.heap.size + 1 + 1 + 1 + 1 + 1) I k va vb p (upd f 6 (some ⟨.slice (some ⟨yb, 0, none⟩) 1 1, 64, 2, 1, [.int .i64 p.1, .int .i64 p.2]⟩))).p2 = true from hd 13 (by decide), if_pos rfl] at q1
          rw [show e (cfg1 W0 (w.heap.size + 1 + 1 + 1) (w.heap.size + 1 + 1 + 1 + 1) (w.heap.size + 1 + 1 + 1 + 1 + 1) I k va vb p (upd f 6 (some ⟨.slice (some ⟨yb, 0, none⟩) 1 1, 64, 2, 1, [.int .i64 p.1, .int .i64 p.2]⟩))).s1 = true from hd 15 (by decide), if_pos rfl] at xa
          rw [show e (cfg1 W0 (w.heap.size + 1 + 1 + 1) (w.heap.size + 1 + 1 + 1 + 1) (w.heap.size + 1 + 1 + 1 + 1 + 1) I k va vb p (upd f 6 (some ⟨.slice (some ⟨yb, 0, none⟩) 1 1, 64, 2, 1, [.int .i64 p.1, .int .i64 p.2]⟩))).s2 = true from hd 17 (by decide), if_pos rfl] at xb
          exact ⟨t 47, t 52, fq, xa, xb, q.bag, by rw [fl2_take HP.out]; exact q0, by rw [fl2_take HP.out]; exact q1, q.be⟩
        clear hd hr hs ok q WF HY
        generalize t 39 = t39, t 40 = t40, t 41 = t41, t 42 = t42, t 43 = t43, t 44 = t44, t 45 = t45, t 46 = t46, t 47 = t47, t 48 = t48, t 49 = t49, t 50 = t50, t 51 = t51, t 52 = t52, t 53 = t53, t 54 = t54 at *
        go_wp2
        go_roundw
        case rel => obtain ⟨va', vb', f', hE⟩ := E.out; exact ⟨k + 1, va', vb', f', by omega, by go_num, hE⟩
        case measure => simp [intOf]; omega
    · obtain rfl : k = L := by omega
      have hS := hS.out
      have HX1 := Lib.hid ((HX.out.below hBr.out (by omega)))
      have HRA1 := Lib.hid ((HRA.out.below hBr.out (by omega)))
      have HRB1 := Lib.hid ((HRB.out.below (hS.be.below (M := w.heap.size + 1 + 1 + 1) (by omega) (by omega) (by omega)) (by omega)))
      have HBw1 := Lib.hid (HBw.out.trans (hBr.out.mono (by omega)))
      have HIA := Lib.hid (hS.bag.own 0 _ hS.f0)
      have HIB := Lib.hid (hS.bag.own 1 _ hS.f1)
      have HA1 := Lib.hid hS.a
      have HB1 := Lib.hid hS.b
      have HSZ1 : Hid (w.heap.size + 1 + 1 + 1 + 1 + 1 ≤ wr.heap.size) := by have := HSZ.out; have := hS.be.size; show _ ≤ _; omega
      obtain ⟨L2, eL2⟩ : ∃ L, min I.cost.length 70 = L := ⟨_, rfl⟩
      have hL : (min (I.cost.length : Int) 70).toNat = L2 := by omega
      have hL21 : L2 ≤ I.cost.length := by omega
      have hL22 : L2 ≤ 70 := by omega
      have hL3 : (0 : Int) ≤ min (I.cost.length : Int) 70 := by omega
      have hL4 : min (I.cost.length : Int) 70 ≤ (C : Int) := by omega
      clear hS hBr HX HRA HRB HSA HSB HBw HSZ
      go_wp2
      clear x0 x1 x2 x3 x4 x5 hL hL3 hL4
      obtain ⟨W1, hW1⟩ : ∃ q, q = wr := ⟨wr, rfl⟩
      subst hW1
      go_loopw [64, 9] (fun i _ wr => ∃ (k : Nat) (xa xb : Value) (ua ub : List Value) (f : Nat → Option Lst), k ≤ L2 ∧ i = .int .i64 (k : Nat) ∧ Hid (St2 (w.heap.size + 1 + 1 + 1) (w.heap.size + 1 + 1 + 1 + 1) W1.heap.size I va vb W1 k xa xb ua ub f wr)) (fun i _ _ => L2 - (intOf i).toNat)
      case atStart => exact ⟨0, .slice none 0 0, .slice none 0 0, [], [], fun i => if i = 0 then some ⟨.slice none 0 0, 68, 1, 0, []⟩ else if i = 1 then some ⟨.slice none 0 0, 68, 1, 0, []⟩ else none, by omega, rfl, ⟨HA1.out, HB1.out, bag_none _ _ _ _ _ _, rfl, rfl, rfl, rfl, (fun _ _ h => by omega), Keeps.refl _ _ _ _⟩⟩
      case round =>
        obtain ⟨k2, xa, xb, ua, ub, f, hk2, rfl, hS⟩ := hrel
        have hs1 := HSZ1.out
        have hBr := Lib.hid (hS.out.be.below (M := w.heap.size + 1 + 1 + 1) (by omega) (by omega) (by omega))
        obtain ⟨x0, x1, x2, x3, x4, x5⟩ := (HX1.out.below hBr.out (by omega)).box
        by_cases hlt2 : k2 < L2
        · have HBk := Lib.hid (HBw1.out.trans (hBr.out.mono (show w.heap.size ≤ _ by omega)))
          obtain ⟨b, off, r0, A', C', rfl, _, hb, hr0, c0, hu0, hC', hM', hI⟩ := (HC.out.next HBk.out).get (i := k2) (by omega)
          unfold maxLen at hM'
          obtain ⟨M, eM⟩ : ∃ M, min r0.length 70 = M := ⟨_, rfl⟩
          have hM : (min (r0.length : Int) 70).toNat = M := by omega
          have hM3 : (0 : Int) ≤ min (r0.length : Int) 70 := by omega
          have hM4 : min (r0.length : Int) 70 ≤ (C' : Int) := by omega
          obtain ⟨r, hr⟩ : ∃ r, r0.take 70 = r := ⟨_, rfl⟩
          have hrl : r.length = M := by rw [← hr, List.length_take]; omega
          have HLI : Hid (Ints G wr (.slice A' M C') r) := Lib.hid (by
            have := Lies.less hI (m := M) (k := M) (by omega) (cs' := nl r) (fun j v hj => by
              rw [← hr] at hj
              simp only [nl, List.getElem?_map, List.getElem?_take] at hj ⊢
              split at hj
              · exact hj
              · simp at hj) rfl
            show Lies G wr (.slice A' M C') r.length (nl r)
            rw [hrl]
            exact this)
          have HLG : Hid (∀ W, Below w.heap.size w W → Ints (fun q => q < w.heap.size) W (.slice A' M C') r) := by
            obtain ⟨b_, off_, r1, A1', C1', e1, _, _, hr1, _, hu1, _, _, hI1⟩ := HC.out.get (i := k2) (by omega)
            have hrr : r1 = r0 := by rw [hr0] at hr1; cases hr1; rfl
            subst hrr
            have heq : (Value.slice A1' r1.length C1') = .slice A' r1.length C' := by
              have := hu0
              rw [hu1] at this
              cases this; rfl
            rw [heq] at hI1
            intro W hW
            have := Lies.less (Lies.later hI1 hW) (m := M) (k := M) (by omega) (cs' := nl r) (fun j v hj => by
              rw [← hr] at hj
              simp only [nl, List.getElem?_map, List.getElem?_take] at hj ⊢
              split at hj
              · exact hj
              · simp at hj) rfl
            show Lies _ W (.slice A' M C') r.length (nl r)
            rw [hrl]
            exact this
          have HCUT : Hid (I.cut.cost[k2]? = some r) := by show _ = _; rw [cut_cost hr0 (by omega), hr]
          have hrl' : r.length ≤ 70 := by omega
          have hbl : b < wr.heap.size := cell_lt c0
          have hbs : W1.heap.size ≤ wr.heap.size := hS.out.be.size
          have c01 : (0 : Int) ≤ (k2 : Int) := by omega
          have c02 : (k2 : Int) < (L2 : Int) := by omega
          subst hrl
          have HY : Hid (Ap (cfg2 W1 (w.heap.size + 1 + 1 + 1) (w.heap.size + 1 + 1 + 1 + 1) W1.heap.size I va vb k2 xa xb ua ub r f) (fun _ => false) (fun _ => undef) f wr.drew) := by
            have hS := hS.out
            show Ap _ _ _ _ _
            refine Ap.start ?_ ?_ ?_ ?_ ?_ ?_ ?_ ?_ _
            · exact hS.a
            · exact hS.b
            · exact hS.bag.next ((Below.refl _ _).drew)
            · exact hS.f0
            · exact hS.f1
            · exact fun _ _ _ => rfl
            · exact hS.be.next hbs ((Below.refl _ _).drew)
            · exact hbs
          have HRW : Hid (∀ (i : Nat) (r : List Int), i < k2 → I.cut.cost[i]? = some r → (∃ u, ua[i]? = some u ∧ f (7 + 2 * i) = some ⟨u, 2, 1, r.length, nl r⟩) ∧ (∃ u, ub[i]? = some u ∧ f (8 + 2 * i) = some ⟨u, 2, 1, r.length, nl r⟩)) := hS.out.rows
          have hla := hS.out.la
          have hlb := hS.out.lb
          clear hS hI hr0 hr hu0
          go_wp2
          have HLL : Hid (∀ W, Keeps (w.heap.size + 1 + 1 + 1) (w.heap.size + 1 + 1 + 1 + 1) W1.heap.size W1 W → Ints (fun q => q < w.heap.size) W (.slice A' r.length C') r) := fun W hW =>
            HLG.out W (HBw1.out.trans (hW.below (by omega) (by omega) (by omega)))
          have WF := Lib.hid (cfg2_wf (W1 := W1) (I := I) (va := va) (vb := vb) (k := k2) (xa := xa) (xb := xb) (ua := ua) (ub := ub) (r := r) (F0 := f) (show w.heap.size + 1 + 1 + 1 < w.heap.size + 1 + 1 + 1 + 1 by omega) (show w.heap.size + 1 + 1 + 1 + 1 < W1.heap.size by omega))
          clear c0 x0 x1 x2 x3 x4 x5 hM hM3 hM4 HLI HLG
--REGION2
          have ok : (planM2 w.heap.size xa xb (.slice A' r.length C')).ok = true := rfl
          refine region_inv (Inv := fun lq_ aq_ wr => ∃ (e : Nat → Bool) (t : Nat → Value), lq_ = #[e 0, e 1, e 2, e 3, e 4, e 5, e 6, e 7, e 8, e 9, e 10, e 11, e 12, e 13, e 14, e 15] ∧ aq_ = ⟨#[.agg #[.int .i64 I.kind, .int .i64 I.cap, .slice A0 I.items.length C0, .slice (some ⟨b, off, none⟩) I.cost.length C, .int .i64 I.size, .slice A2 I.sets.length C2], .pointer (some ⟨w.heap.size, 0, none⟩), .pointer (some ⟨w.heap.size + 1, 0, none⟩), .pointer (some ⟨w.heap.size + 1 + 1, 0, none⟩), .pointer (some ⟨w.heap.size + 1 + 1 + 1, 0, none⟩), .pointer (some ⟨w.heap.size + 1 + 1 + 1 + 1, 0, none⟩), undef, u7, undef, .slice A' r.length C', undef, undef, undef, .pointer (some ⟨w.heap.size, 0, none⟩), .int .i64 I.kind, .pointer (some ⟨w.heap.size, 1, none⟩), .int .i64 I.cap, .pointer (some ⟨w.heap.size, 4, none⟩), .int .i64 I.size, .agg #[.int .i64 I.kind, .int .i64 I.cap, .slice none 0 0, .slice none 0 0, .int .i64 I.size, .slice none 0 0], .pointer (some ⟨w.heap.size, 0, none⟩), .int .i64 I.kind, .pointer (some ⟨w.heap.size, 1, none⟩), .int .i64 I.cap, .pointer (some ⟨w.heap.size, 4, none⟩), .int .i64 I.size, .agg #[.int .i64 I.kind, .int .i64 I.cap, .slice none 0 0, .slice none 0 0, .int .i64 I.size, .slice none 0 0], .pointer (some ⟨w.heap.size, 2, none⟩), .slice A0 I.items.length C0, .pointer (some ⟨w.heap.size, 2, none⟩), .slice A0 I.items.length C0, .int .i64 (I.items.length : Int), .int .i64 (min ((I.items.length : Int)) 40), .slice A0 k C0, .int .i64 (k : Int), .int .i64 (k : Int), .bool false, u37, u38, u39, u40, u41, u42, u43, u44, u45, u46, u47, u48, u49, u50, u51, u52, u53, u54, u55, .pointer (some ⟨w.heap.size, 3, none⟩), .slice (some ⟨b, off, none⟩) I.cost.length C, .pointer (some ⟨w.heap.size, 3, none⟩), .slice (some ⟨b, off, none⟩) I.cost.length C, .int .i64 (I.cost.length : Int), .int .i64 (min ((I.cost.length : Int)) 70), .slice (some ⟨b, off, none⟩) L2 C, .int .i64 (L2 : Int), .int .i64 (k2 : Int), .bool true, .pointer (some ⟨b, off + k2, none⟩), .slice A' r0.length C', .slice A' r0.length C', .slice A' r0.length C', .int .i64 (r0.length : Int), .int .i64 (min ((r0.length : Int)) 70), .slice A' r.length C', t 73, t 74, t 75, t 76, t 77, t 78, t 79, t 80, t 81, t 82, t 83, t 84, t 85, t 86, u87, undef, undef, undef, undef, undef, undef, undef, undef, undef, undef, undef, undef, undef, undef, undef, undef, undef, undef, undef, undef, undef, undef, undef, undef, undef, undef, undef, undef, undef, undef, undef, undef, undef, undef, undef, undef, undef, undef, undef, undef, undef, undef], []⟩ ∧ Vals (planM2 w.heap.size xa xb (.slice A' r.length C')) e t ∧ (∃ fq, Ap (cfg2 W1 (w.heap.size + 1 + 1 + 1) (w.heap.size + 1 + 1 + 1 + 1) W1.heap.size I va vb k2 xa xb ua ub r f) e t fq wr)) (by kernel_rfl) ?step ?start ?done
          case start => exact ⟨fun _ => false, fun j => if j = 73 then u73 else if j = 74 then u74 else if j = 75 then u75 else if j = 76 then u76 else if j = 77 then u77 else if j = 78 then u78 else if j = 79 then u79 else if j = 80 then u80 else if j = 81 then u81 else if j = 82 then u82 else if j = 83 then u83 else if j = 84 then u84 else if j = 85 then u85 else if j = 86 then u86 else undef, rfl, rfl, Vals.start _ _, ⟨_, HY.out.tt _⟩⟩
          case step =>
            rintro lq_ aq_ wr ⟨e, t, rfl, rfl, hs, hm⟩ q_ o ho hi ha
            match q_, ho, hi, ha with
            | 0, ho, hi, ha =>
              obtain rfl : _ = o := Option.some.inj ho
              have hi : e 0 = false := hi
              refine wpOp_step (i := 0) rfl (fun K hK => ?_)
              have HK : Shut (∀ a w, _ → K a w) := hK
              clear hK ho
              have HS := Lib.hid hs
              have HM := Lib.hid hm
              have HI := Lib.hid hi
              clear hs ha hm hi
              go_simp
              exact HK.out _ _ ⟨upd e 0 true, upd t 73 _, rfl, rfl, by exact HS.out.put ok (i := 0) rfl, (by obtain ⟨f_, q_⟩ := HM.out; exact ⟨f_, q_.of rfl rfl rfl rfl rfl rfl (fun _ => ⟨rfl, rfl⟩) (fun h_ => by first | exact h_ | rfl) (fun h_ => by first | exact h_ | rfl) rfl rfl rfl rfl rfl rfl⟩)⟩
            | 1, ho, hi, ha =>
              obtain rfl : _ = o := Option.some.inj ho
              have hi : e 1 = false := hi
              have T0 : t 73 = .pointer (some ⟨w.heap.size + 1 + 1 + 1, 3, none⟩) := hs.val 0 rfl (ha { on := 0, ground := .data } (by simp) rfl)
              have H0 := Lib.hid T0
              have xa_ : wr.cell? ⟨w.heap.size + 1 + 1 + 1, 3, none⟩ = some xa := (by obtain ⟨f_, q_⟩ := hm; exact (objA_2 (q_.la hi)).2.1)
              refine wpOp_step (i := 1) rfl (fun K hK => ?_)
              have HK : Shut (∀ a w, _ → K a w) := hK
              clear hK ho
              have HS := Lib.hid hs
              have HM := Lib.hid hm
              have HI := Lib.hid hi
              clear hs ha hm hi
              go_simp
              exact HK.out _ _ ⟨upd e 1 true, upd (upd t 73 _) 74 _, rfl, rfl, by rw [upd_self H0.out]; exact HS.out.put ok (i := 1) rfl, (by obtain ⟨f_, q_⟩ := HM.out; exact ⟨f_, q_.of rfl rfl rfl rfl rfl rfl (fun _ => ⟨rfl, rfl⟩) (fun h_ => by first | exact h_ | rfl) (fun h_ => by first | exact h_ | rfl) rfl rfl rfl rfl rfl rfl⟩)⟩
            | 2, ho, hi, ha =>
              obtain rfl : _ = o := Option.some.inj ho
              have hi : e 2 = false := hi
              refine wpOp_step (i := 2) rfl (fun K hK => ?_)
              have HK : Shut (∀ a w, _ → K a w) := hK
              clear hK ho
              have HS := Lib.hid hs
              have HM := Lib.hid hm
              have HI := Lib.hid hi
              clear hs ha hm hi
              go_simp
              exact HK.out _ _ ⟨upd e 2 true, upd t 75 _, rfl, rfl, by exact HS.out.put ok (i := 2) rfl, (by obtain ⟨f_, q_⟩ := HM.out; exact ⟨f_, q_.of rfl rfl rfl rfl rfl rfl (fun _ => ⟨rfl, rfl⟩) (fun h_ => by first | exact h_ | rfl) (fun h_ => by first | exact h_ | rfl) rfl rfl rfl rfl rfl rfl⟩)⟩
            | 3, ho, hi, ha =>
              obtain rfl : _ = o := Option.some.inj ho
              have hi : e 3 = false := hi
              have d1 : e 2 = true := ha { on := 2, ground := .data } (by simp) rfl
              have TS_ : t 75 = .slice A' r.length C' := hs.val 2 rfl d1
              obtain ⟨f_, q_⟩ := hm
              refine wpOp_step (i := 3) rfl (fun K hK => ?_)
              refine step_own wr rfl (.const (.slice none 0 0)) (.tmp 75) 68 rfl 2 nn1 (.int .i64 0) 1 8 Tryz.underlying68 nn2 nn3 nn4 nn5 rfl (by decide) (by decide) _ (.slice A' r.length C') r.length (nl r) rfl TS_ (HLL.out _ q_.be) (by rw [nl_length]; omega) nl_one (by omega) ?_
              intro A_ C_ w' hown hb _ _
              exact hK _ _ ⟨upd e 3 true, upd t 76 _, rfl, rfl, hs.skip' (i := 3) rfl rfl, ⟨_, q_.own1 WF.out rfl hi hown hb⟩⟩
            | 4, ho, hi, ha =>
              obtain rfl : _ = o := Option.some.inj ho
              have hi : e 4 = false := hi
              have DO : Hid (e 3 = true) := ha { on := 3, ground := .data } (by simp) rfl
              obtain ⟨as_, cs_, T76⟩ : ∃ a_ c_, t 76 = .slice a_ r.length c_ := (by obtain ⟨f_, q_⟩ := hm; exact (q_.q1 rfl DO.out).2)
              have H76 := Lib.hid T76
              refine wpOp_step (i := 4) rfl (fun K hK => ?_)
              have HK : Shut (∀ a w, _ → K a w) := hK
              clear hK ho
              have HS := Lib.hid hs
              have HM := Lib.hid hm
              have HI := Lib.hid hi
              clear hs ha hm hi
              go_simp
              exact HK.out _ _ ⟨upd e 4 true, upd (upd t 76 _) 77 _, rfl, rfl, by rw [upd_self H76.out]; exact HS.out.skip' (i := 4) rfl rfl, (by rw [upd_self H76.out]; obtain ⟨f_, q_⟩ := HM.out; exact ⟨_, q_.made1 (cs := #[.slice as_ r.length cs_]) WF.out (fun _ => DO.out) rfl (by show _ = [t 76]; rw [H76.out])⟩)⟩
            | 5, ho, hi, ha =>
              obtain rfl : _ = o := Option.some.inj ho
              have hi : e 5 = false := hi
              have d1 : e 1 = true := ha { on := 1, ground := .data } (by simp) rfl
              have d7 : e 4 = true := ha { on := 4, ground := .data } (by simp) rfl
              have TS_ : t 74 = xa := hs.val 1 rfl d1
              obtain ⟨f_, q_⟩ := hm
              obtain ⟨hb4, g_, TX⟩ := q_.g1 d7
              have hO := q_.ownA hi
              obtain ⟨as_, cs_, hsh⟩ : ∃ a_ c_, t 76 = .slice a_ r.length c_ := (q_.q1 rfl (q_.y3 rfl d7)).2
              have hN := (q_.bag.own 4 _ hb4).cells (g := g_) (by show (t 77).ownBlock = some g_; rw [show t 77 = _ from TX]; rfl)
              refine wpOp_step (i := 5) rfl (fun K hK => ?_)
              refine step_append_lies wr rfl (.tmp 74) (.tmp 77) 23 rfl W1.heap.size 68 rr1 (.slice none 0 0) 1 24 Tryz.underlying23 rr2 rr3 rr4 rr5 rfl (by decide) xa k2 ua TS_ hO ⟨g_, 0, none⟩ 1 1 [t 76] TX rfl hN (one_head hsh) (by omega) (by unfold maxLen; omega) (by omega) q_.sz wr.heap.size rfl ?_
              intro g' c' w' hown hgrow hat _
              exact hK _ _ ⟨upd e 5 true, upd t 78 _, rfl, rfl, hs.skip' (i := 5) rfl rfl, ⟨_, q_.app1 WF.out hi d7 hown hgrow hat⟩⟩
            | 6, ho, hi, ha =>
              obtain rfl : _ = o := Option.some.inj ho
              have hi : e 6 = false := hi
              refine wpOp_step (i := 6) rfl (fun K hK => ?_)
              have HK : Shut (∀ a w, _ → K a w) := hK
              clear hK ho
              have HS := Lib.hid hs
              have HM := Lib.hid hm
              have HI := Lib.hid hi
              clear hs ha hm hi
              go_simp
              exact HK.out _ _ ⟨upd e 6 true, upd t 79 _, rfl, rfl, by exact HS.out.put ok (i := 6) rfl, (by obtain ⟨f_, q_⟩ := HM.out; exact ⟨f_, q_.of rfl rfl rfl rfl rfl rfl (fun _ => ⟨rfl, rfl⟩) (fun h_ => by first | exact h_ | rfl) (fun h_ => by first | exact h_ | rfl) rfl rfl rfl rfl rfl rfl⟩)⟩
            | 7, ho, hi, ha =>
              obtain rfl : _ = o := Option.some.inj ho
              have hi : e 7 = false := hi
              have T6 : t 79 = .pointer (some ⟨w.heap.size + 1 + 1 + 1 + 1, 3, none⟩) := hs.val 6 rfl (ha { on := 6, ground := .data } (by simp) rfl)
              have H6 := Lib.hid T6
              have xb_ : wr.cell? ⟨w.heap.size + 1 + 1 + 1 + 1, 3, none⟩ = some xb := (by obtain ⟨f_, q_⟩ := hm; exact (objB_2 (q_.lb hi)).2.1)
              refine wpOp_step (i := 7) rfl (fun K hK => ?_)
              have HK : Shut (∀ a w, _ → K a w) := hK
              clear hK ho
              have HS := Lib.hid hs
              have HM := Lib.hid hm
              have HI := Lib.hid hi
              clear hs ha hm hi
              go_simp
              exact HK.out _ _ ⟨upd e 7 true, upd (upd t 79 _) 80 _, rfl, rfl, by rw [upd_self H6.out]; exact HS.out.put ok (i := 7) rfl, (by obtain ⟨f_, q_⟩ := HM.out; exact ⟨f_, q_.of rfl rfl rfl rfl rfl rfl (fun _ => ⟨rfl, rfl⟩) (fun h_ => by first | exact h_ | rfl) (fun h_ => by first | exact h_ | rfl) rfl rfl rfl rfl rfl rfl⟩)⟩
            | 8, ho, hi, ha =>
              obtain rfl : _ = o := Option.some.inj ho
              have hi : e 8 = false := hi
              refine wpOp_step (i := 8) rfl (fun K hK => ?_)
              have HK : Shut (∀ a w, _ → K a w) := hK
              clear hK ho
              have HS := Lib.hid hs
              have HM := Lib.hid hm
              have HI := Lib.hid hi
              clear hs ha hm hi
              go_simp
              exact HK.out _ _ ⟨upd e 8 true, upd t 81 _, rfl, rfl, by exact HS.out.put ok (i := 8) rfl, (by obtain ⟨f_, q_⟩ := HM.out; exact ⟨f_, q_.of rfl rfl rfl rfl rfl rfl (fun _ => ⟨rfl, rfl⟩) (fun h_ => by first | exact h_ | rfl) (fun h_ => by first | exact h_ | rfl) rfl rfl rfl rfl rfl rfl⟩)⟩
            | 9, ho, hi, ha =>
              obtain rfl : _ = o := Option.some.inj ho
              have hi : e 9 = false := hi
              have d1 : e 8 = true := ha { on := 8, ground := .data } (by simp) rfl
              have TS_ : t 81 = .slice A' r.length C' := hs.val 8 rfl d1
              obtain ⟨f_, q_⟩ := hm
              refine wpOp_step (i := 9) rfl (fun K hK => ?_)
              refine step_own wr rfl (.const (.slice none 0 0)) (.tmp 81) 68 rfl 2 nn1 (.int .i64 0) 1 8 Tryz.underlying68 nn2 nn3 nn4 nn5 rfl (by decide) (by decide) _ (.slice A' r.length C') r.length (nl r) rfl TS_ (HLL.out _ q_.be) (by rw [nl_length]; omega) nl_one (by omega) ?_
              intro A_ C_ w' hown hb _ _
              exact hK _ _ ⟨upd e 9 true, upd t 82 _, rfl, rfl, hs.skip' (i := 9) rfl rfl, ⟨_, q_.own2 WF.out rfl hi hown hb⟩⟩
            | 10, ho, hi, ha =>
              obtain rfl : _ = o := Option.some.inj ho
              have hi : e 10 = false := hi
              have DO : Hid (e 9 = true) := ha { on := 9, ground := .data } (by simp) rfl
              obtain ⟨as_, cs_, T82⟩ : ∃ a_ c_, t 82 = .slice a_ r.length c_ := (by obtain ⟨f_, q_⟩ := hm; exact (q_.q2 rfl DO.out).2)
              have H82 := Lib.hid T82
              refine wpOp_step (i := 10) rfl (fun K hK => ?_)
              have HK : Shut (∀ a w, _ → K a w) := hK
              clear hK ho
              have HS := Lib.hid hs
              have HM := Lib.hid hm
              have HI := Lib.hid hi
              clear hs ha hm hi
              go_simp
              exact HK.out _ _ ⟨upd e 10 true, upd (upd t 82 _) 83 _, rfl, rfl, by rw [upd_self H82.out]; exact HS.out.skip' (i := 10) rfl rfl, (by rw [upd_self H82.out]; obtain ⟨f_, q_⟩ := HM.out; exact ⟨_, q_.made2 (cs := #[.slice as_ r.length cs_]) WF.out (fun _ => DO.out) rfl (by show _ = [t 82]; rw [H82.out])⟩)⟩
            | 11, ho, hi, ha =>
              obtain rfl : _ = o := Option.some.inj ho
              have hi : e 11 = false := hi
              have d1 : e 7 = true := ha { on := 7, ground := .data } (by simp) rfl
              have d7 : e 10 = true := ha { on := 10, ground := .data } (by simp) rfl
              have TS_ : t 80 = xb := hs.val 7 rfl d1
              obtain ⟨f_, q_⟩ := hm
              obtain ⟨hb4, g_, TX⟩ := q_.g2 d7
              have hO := q_.ownB hi
              obtain ⟨as_, cs_, hsh⟩ : ∃ a_ c_, t 82 = .slice a_ r.length c_ := (q_.q2 rfl (q_.y4 rfl d7)).2
              have hN := (q_.bag.own 5 _ hb4).cells (g := g_) (by show (t 83).ownBlock = some g_; rw [show t 83 = _ from TX]; rfl)
              refine wpOp_step (i := 11) rfl (fun K hK => ?_)
              refine step_append_lies wr rfl (.tmp 80) (.tmp 83) 23 rfl W1.heap.size 68 rr1 (.slice none 0 0) 1 24 Tryz.underlying23 rr2 rr3 rr4 rr5 rfl (by decide) xb k2 ub TS_ hO ⟨g_, 0, none⟩ 1 1 [t 82] TX rfl hN (one_head hsh) (by omega) (by unfold maxLen; omega) (by omega) q_.sz wr.heap.size rfl ?_
              intro g' c' w' hown hgrow hat _
              exact hK _ _ ⟨upd e 11 true, upd t 84 _, rfl, rfl, hs.skip' (i := 11) rfl rfl, ⟨_, q_.app2 WF.out hi d7 hown hgrow hat⟩⟩
            | 12, ho, hi, ha =>
              obtain rfl : _ = o := Option.some.inj ho
              have hi : e 12 = false := hi
              refine wpOp_step (i := 12) rfl (fun K hK => ?_)
              have HK : Shut (∀ a w, _ → K a w) := hK
              clear hK ho
              have HS := Lib.hid hs
              have HM := Lib.hid hm
              have HI := Lib.hid hi
              clear hs ha hm hi
              go_simp
              exact HK.out _ _ ⟨upd e 12 true, upd t 85 _, rfl, rfl, by exact HS.out.put ok (i := 12) rfl, (by obtain ⟨f_, q_⟩ := HM.out; exact ⟨f_, q_.of rfl rfl rfl rfl rfl rfl (fun _ => ⟨rfl, rfl⟩) (fun h_ => by first | exact h_ | rfl) (fun h_ => by first | exact h_ | rfl) rfl rfl rfl rfl rfl rfl⟩)⟩
            | 13, ho, hi, ha =>
              obtain rfl : _ = o := Option.some.inj ho
              have hi : e 13 = false := hi
              have T12 : t 85 = .pointer (some ⟨w.heap.size + 1 + 1 + 1, 3, none⟩) := hs.val 12 rfl (ha { on := 12, ground := .data } (by simp) rfl)
              have H12 := Lib.hid T12
              have DL : Hid (e 1 = true) := ha { on := 1, ground := .phase } (by simp) rfl
              have DP : Hid (e 5 = true) := ha { on := 5, ground := .data } (by simp) rfl
              obtain ⟨gs_, cs_, T78⟩ : ∃ g_ c_, t 78 = .slice (some ⟨g_, 0, none⟩) (k2 + 1) c_ := (by obtain ⟨f_, q_⟩ := hm; exact q_.shape1 DP.out)
              have H78 := Lib.hid T78
              have XB_ : ∃ v_, wr.heap[(w.heap.size + 1 + 1 + 1)]? = some ((fun v => objA I va v (.slice none 0 0)) v_) := (by obtain ⟨f_, q_⟩ := hm; exact ⟨_, q_.xa⟩)
              obtain ⟨v_, XB_⟩ := XB_
              have XC := Lib.hid XB_
              obtain ⟨c2_, c3_, c5_, fr_⟩ := objA_2 XB_
              have cc_ := c3_
              have fc_ := fr_ 3
              clear fr_ XB_ c2_ c3_ c5_
              refine wpOp_step (i := 13) rfl (fun K hK => ?_)
              have HK : Shut (∀ a w, _ → K a w) := hK
              clear hK ho
              have HS := Lib.hid hs
              have HM := Lib.hid hm
              have HI := Lib.hid hi
              clear hs ha hm hi
              go_simp
              exact HK.out _ _ ⟨upd e 13 true, (upd (upd t 85 _) 78 _), rfl, rfl, by rw [upd_self H12.out, upd_self H78.out]; exact HS.out.skip (i := 13) rfl, (by rw [upd_self H12.out, upd_self H78.out]; obtain ⟨f_, q_⟩ := HM.out; exact ⟨f_, q_.st1 WF.out DL.out DP.out (o := 3) (by show (wr.setCell ⟨(w.heap.size + 1 + 1 + 1), 3, none⟩ _).heap[(w.heap.size + 1 + 1 + 1)]? = some ((fun v => objA I va v (.slice none 0 0)) (t 78)); rw [H78.out]; exact heap_setCell_same wr _ 3 _ _ _ XC.out)⟩)⟩
            | 14, ho, hi, ha =>
              obtain rfl : _ = o := Option.some.inj ho
              have hi : e 14 = false := hi
              refine wpOp_step (i := 14) rfl (fun K hK => ?_)
              have HK : Shut (∀ a w, _ → K a w) := hK
              clear hK ho
              have HS := Lib.hid hs
              have HM := Lib.hid hm
              have HI := Lib.hid hi
              clear hs ha hm hi
              go_simp
              exact HK.out _ _ ⟨upd e 14 true, upd t 86 _, rfl, rfl, by exact HS.out.put ok (i := 14) rfl, (by obtain ⟨f_, q_⟩ := HM.out; exact ⟨f_, q_.of rfl rfl rfl rfl rfl rfl (fun _ => ⟨rfl, rfl⟩) (fun h_ => by first | exact h_ | rfl) (fun h_ => by first | exact h_ | rfl) rfl rfl rfl rfl rfl rfl⟩)⟩
            | 15, ho, hi, ha =>
              obtain rfl : _ = o := Option.some.inj ho
              have hi : e 15 = false := hi
              have T14 : t 86 = .pointer (some ⟨w.heap.size + 1 + 1 + 1 + 1, 3, none⟩) := hs.val 14 rfl (ha { on := 14, ground := .data } (by simp) rfl)
              have H14 := Lib.hid T14
              have DL : Hid (e 7 = true) := ha { on := 7, ground := .phase } (by simp) rfl
              have DP : Hid (e 11 = true) := ha { on := 11, ground := .data } (by simp) rfl
              obtain ⟨gs_, cs_, T84⟩ : ∃ g_ c_, t 84 = .slice (some ⟨g_, 0, none⟩) (k2 + 1) c_ := (by obtain ⟨f_, q_⟩ := hm; exact q_.shape2 DP.out)
              have H84 := Lib.hid T84
              have XB_ : ∃ v_, wr.heap[(w.heap.size + 1 + 1 + 1 + 1)]? = some ((fun v => objB I vb v (.slice none 0 0)) v_) := (by obtain ⟨f_, q_⟩ := hm; exact ⟨_, q_.xb⟩)
              obtain ⟨v_, XB_⟩ := XB_
              have XC := Lib.hid XB_
              obtain ⟨c2_, c3_, c5_, fr_⟩ := objB_2 XB_
              have cc_ := c3_
              have fc_ := fr_ 3
              clear fr_ XB_ c2_ c3_ c5_
              refine wpOp_step (i := 15) rfl (fun K hK => ?_)
              have HK : Shut (∀ a w, _ → K a w) := hK
              clear hK ho
              have HS := Lib.hid hs
              have HM := Lib.hid hm
              have HI := Lib.hid hi
              clear hs ha hm hi
              go_simp
              exact HK.out _ _ ⟨upd e 15 true, (upd (upd t 86 _) 84 _), rfl, rfl, by rw [upd_self H14.out, upd_self H84.out]; exact HS.out.skip (i := 15) rfl, (by rw [upd_self H14.out, upd_self H84.out]; obtain ⟨f_, q_⟩ := HM.out; exact ⟨f_, q_.st2 WF.out DL.out DP.out (o := 3) (by show (wr.setCell ⟨(w.heap.size + 1 + 1 + 1 + 1), 3, none⟩ _).heap[(w.heap.size + 1 + 1 + 1 + 1)]? = some ((fun v => objB I vb v (.slice none 0 0)) (t 84)); rw [H84.out]; exact heap_setCell_same wr _ 3 _ _ _ XC.out)⟩)⟩
            | k + 16, ho, hi, ha => simp at ho
          case done =>
            rintro lq_ aq_ wr ⟨e, t, rfl, rfl, hs, hm⟩ hr
            have hd := ready_done hr rfl (by decide +kernel)
--REGION2END
            obtain ⟨fq, q⟩ := hm
            have E : Hid (∃ xa' xb' ua' ub' f', St2 (w.heap.size + 1 + 1 + 1) (w.heap.size + 1 + 1 + 1 + 1) W1.heap.size I va vb W1 (k2 + 1) xa' xb' ua' ub' f' wr) := by
              have q0 := q.f0
              have q1 := q.f1
              have xa_ := q.xa
              have xb_ := q.xb
              have o1 := (q.q1 rfl (hd 3 (by decide))).1
              have o2 := (q.q2 rfl (hd 9 (by decide))).1
              rw [show e (cfg2 W1 (w.heap.size + 1 + 1 + 1) (w.heap.size + 1 + 1 + 1 + 1) W1.heap.size I va vb k2 xa xb ua ub r f).p1 = true from hd 5 (by decide), if_pos rfl] at q0
              rw [show e (cfg2 W1 (w.heap.size + 1 + 1 + 1) (w.heap.size + 1 + 1 + 1 + 1) W1.heap.size I va vb k2 xa xb ua ub r f).p2 = true from hd 11 (by decide), if_pos rfl] at q1
              rw [show e (cfg2 W1 (w.heap.size + 1 + 1 + 1) (w.heap.size + 1 + 1 + 1 + 1) W1.heap.size I va vb k2 xa xb ua ub r f).s1 = true from hd 13 (by decide), if_pos rfl] at xa_
              rw [show e (cfg2 W1 (w.heap.size + 1 + 1 + 1) (w.heap.size + 1 + 1 + 1 + 1) W1.heap.size I va vb k2 xa xb ua ub r f).s2 = true from hd 15 (by decide), if_pos rfl] at xb_
              refine ⟨t 78, t 84, ua ++ [t 76], ub ++ [t 82], fq, xa_, xb_, q.bag, q0, q1, by simp [hla], by simp [hlb], fun i r' hi hr' => ?_, q.be⟩
              by_cases hik : i < k2
              · obtain ⟨⟨u1, e1, e2⟩, ⟨u2, e3, e4⟩⟩ := HRW.out i r' hik hr'
                exact ⟨⟨u1, by rw [List.getElem?_append_left (by omega)]; exact e1, (q.rest _ (by omega) (fun _ => ⟨by show _ ≠ 7 + 2 * k2; omega, by show _ ≠ 8 + 2 * k2; omega⟩)).trans e2⟩,
                  ⟨u2, by rw [List.getElem?_append_left (by omega)]; exact e3, (q.rest _ (by omega) (fun _ => ⟨by show _ ≠ 7 + 2 * k2; omega, by show _ ≠ 8 + 2 * k2; omega⟩)).trans e4⟩⟩
              · obtain rfl : i = k2 := by omega
                have hc := HCUT.out
                rw [hr'] at hc
                obtain rfl : r' = r := by simpa using hc
                exact ⟨⟨t 76, by rw [← hla]; simp, o1⟩, ⟨t 82, by rw [← hlb]; simp, o2⟩⟩
            clear hd hr hs ok q WF HY
            generalize t 73 = t73, t 74 = t74, t 75 = t75, t 76 = t76, t 77 = t77, t 78 = t78, t 79 = t79, t 80 = t80, t 81 = t81, t 82 = t82, t 83 = t83, t 84 = t84, t 85 = t85, t 86 = t86 at *
            go_wp2
            go_roundw
            case rel => obtain ⟨xa', xb', ua', ub', f', hE⟩ := E.out; exact ⟨k2 + 1, xa', xb', ua', ub', f', by omega, by go_num, hE⟩
            case measure => simp [intOf]; omega
        · obtain rfl : k2 = L2 := by omega
          have hS := hS.out
          have hBr0 := hS.be.below (M := w.heap.size + 1 + 1 + 1) (by omega) (by omega) (by omega)
          have HX2 := Lib.hid ((HX1.out.below hBr.out (by omega)))
          have HRA2 := Lib.hid ((HRA1.out.below hBr.out (by omega)))
          have HRB2 := Lib.hid ((HRB1.out.below hBr.out (by omega)))
          have HBw2 := Lib.hid (HBw1.out.trans (hBr.out.mono (show w.heap.size ≤ _ by omega)))
          have hIlt : ∀ q, va.ownBlock = some q → q < W1.heap.size ∧ w.heap.size + 1 + 1 + 1 + 1 + 1 ≤ q := fun q hq => ⟨(HIA.out.lt q hq).2, (HIA.out.lt q hq).1⟩
          have hJlt : ∀ q, vb.ownBlock = some q → q < W1.heap.size ∧ w.heap.size + 1 + 1 + 1 + 1 + 1 ≤ q := fun q hq => ⟨(HIB.out.lt q hq).2, (HIB.out.lt q hq).1⟩
          have HIA2 := Lib.hid (own_keeps HIA.out (fun q hq => ⟨(hIlt q hq).1, by have := (hIlt q hq).2; omega, by have := (hIlt q hq).2; omega⟩) hS.be)
          have HIB2 := Lib.hid (own_keeps HIB.out (fun q hq => ⟨(hJlt q hq).1, by have := (hJlt q hq).2; omega, by have := (hJlt q hq).2; omega⟩) hS.be)
          have HSZ2 : Hid (W1.heap.size ≤ wr.heap.size) := hS.be.size
          have HS2 := Lib.hid hS
          obtain ⟨L3, eL3⟩ : ∃ L, min I.sets.length 40 = L := ⟨_, rfl⟩
          have hL : (min (I.sets.length : Int) 40).toNat = L3 := by omega
          have hL31 : L3 ≤ I.sets.length := by omega
          have hL32 : L3 ≤ 40 := by omega
          have hL3 : (0 : Int) ≤ min (I.sets.length : Int) 40 := by omega
          have hL4 : min (I.sets.length : Int) 40 ≤ (C2 : Int) := by omega
          clear hS hBr HX1 HRA1 HRB1 HBw1 HIA HIB hIlt hJlt hBr0 HA1 HB1
          go_wp2
          clear x0 x1 x2 x3 x4 x5 hL hL3 hL4
          obtain ⟨W2, hW2⟩ : ∃ q, q = wr := ⟨wr, rfl⟩
          subst hW2
          go_loopw [96, 11, 12] (fun i _ _ wr => ∃ (k : Nat) (za zb : Value) (ua' ub' : List Value) (f : Nat → Option Lst), k ≤ L3 ∧ i = .int .i64 (k : Nat) ∧ Hid (St3 (w.heap.size + 1 + 1 + 1) (w.heap.size + 1 + 1 + 1 + 1) W2.heap.size I va vb xa xb W2 k za zb ua' ub' f wr)) (fun i _ _ _ => L3 - (intOf i).toNat)
          case atStart => exact ⟨0, .slice none 0 0, .slice none 0 0, [], [], fun i => if i = 0 then some ⟨.slice none 0 0, 71, 2, 0, []⟩ else if i = 1 then some ⟨.slice none 0 0, 72, 2, 0, []⟩ else none, by omega, rfl, ⟨HS2.out.a, HS2.out.b, bag_none _ _ _ _ _ _, rfl, rfl, rfl, rfl, (fun _ _ h => by omega), Keeps.refl _ _ _ _⟩⟩
          case round =>
            obtain ⟨k3, za, zb, ua3, ub3, f3, hk3, rfl, hS⟩ := hrel
            have hs2 := HSZ2.out
            have hBr := Lib.hid (hS.out.be.below (M := w.heap.size + 1 + 1 + 1) (by omega) (by omega) (by omega))
            obtain ⟨x0, x1, x2, x3, x4, x5⟩ := (HX2.out.below hBr.out (by omega)).box
            by_cases hlt3 : k3 < L3
            · have HBk := Lib.hid (HBw2.out.trans (hBr.out.mono (show w.heap.size ≤ _ by omega)))
              obtain ⟨b, off, s0, A', C', rfl, _, hb, hs0, c0, c1, hu0, hC', hM', hI⟩ := (HS.out.next HBk.out).get (i := k3) (by omega)
              unfold maxLen at hM'
              obtain ⟨M, eM⟩ : ∃ M, min s0.2.length 40 = M := ⟨_, rfl⟩
              have hM : (min (s0.2.length : Int) 40).toNat = M := by omega
              have hM3 : (0 : Int) ≤ min (s0.2.length : Int) 40 := by omega
              have hM4 : min (s0.2.length : Int) 40 ≤ (C' : Int) := by omega
              obtain ⟨s, hs⟩ : ∃ s : Int × List Int, (s0.1, s0.2.take 40) = s := ⟨_, rfl⟩
              have hsl : s.2.length = M := by rw [← hs]; show (s0.2.take 40).length = M; rw [List.length_take]; omega
              have hs1' : s0.1 = s.1 := by rw [← hs]
              have HLG : Hid (∀ W, Below w.heap.size w W → Ints (fun q => q < w.heap.size) W (.slice A' M C') s.2) := by
                obtain ⟨b_, off_, r1, A1', C1', e1, _, _, hr1, _, _, hu1, _, _, hI1⟩ := HS.out.get (i := k3) (by omega)
                have hrr : r1 = s0 := by rw [hs0] at hr1; cases hr1; rfl
                subst hrr
                have heq : (Value.slice A1' r1.2.length C1') = .slice A' r1.2.length C' := by
                  have := hu0
                  rw [hu1] at this
                  cases this; rfl
                rw [heq] at hI1
                intro W hW
                have := Lies.less (Lies.later hI1 hW) (m := M) (k := M) (by omega) (cs' := nl s.2) (fun j v hj => by
                  rw [← hs] at hj
                  simp only [nl, List.getElem?_map, List.getElem?_take] at hj ⊢
                  split at hj
                  · exact hj
                  · simp at hj) rfl
                show Lies _ W (.slice A' M C') s.2.length (nl s.2)
                rw [hsl]
                exact this
              have HCUT : Hid (I.cut.sets[k3]? = some s) := by show _ = _; rw [cut_sets hs0 (by omega), hs]
              have hrl' : s.2.length ≤ 40 := by omega
              have hbs : W2.heap.size ≤ wr.heap.size := hS.out.be.size
              have c01 : (0 : Int) ≤ (k3 : Int) := by omega
              have c02 : (k3 : Int) < (L3 : Int) := by omega
              rw [hs1'] at c0
              clear hs1'
              subst hsl
              have HY : Hid (Ap (cfg3 W2 (w.heap.size + 1 + 1 + 1) (w.heap.size + 1 + 1 + 1 + 1) W2.heap.size I va vb xa xb k3 za zb ua3 ub3 s (upd f3 6 (some ⟨.slice (some ⟨wr.heap.size, 0, none⟩) 1 1, 105, 2, 1, [.int .i64 s.1, .slice A' s0.2.length C']⟩))) (fun _ => false) (fun _ => undef) (upd f3 6 (some ⟨.slice (some ⟨wr.heap.size, 0, none⟩) 1 1, 105, 2, 1, [.int .i64 s.1, .slice A' s0.2.length C']⟩)) (wr.alloc (.cells #[.int .i64 s.1, .slice A' s0.2.length C'] 105)).drew) := by
                have nb := new_below wr (.cells #[.int .i64 s.1, .slice A' s0.2.length C'] 105)
                have hr : (wr.alloc (.cells #[.int .i64 s.1, .slice A' s0.2.length C'] 105)).ownsRow wr.heap.size 105 2 (.slice (some ⟨wr.heap.size, 0, none⟩) 1 1) 1 [.int .i64 s.1, .slice A' s0.2.length C'] := World.ownsRow_lit wr #[.int .i64 s.1, .slice A' s0.2.length C'] 1 (Nat.le_refl _) (by unfold maxLen; omega) rfl
                have hS := hS.out
                show Ap _ _ _ _ _
                refine Ap.start ?_ ?_ ?_ ?_ ?_ ?_ ?_ ?_ _
                · exact (nb.block _ (lt_of_block hS.a)).trans hS.a
                · exact (nb.block _ (lt_of_block hS.b)).trans hS.b
                · exact (hS.bag.push hbs nb (x := ⟨.slice (some ⟨wr.heap.size, 0, none⟩) 1 1, 105, 2, 1, [.int .i64 s.1, .slice A' s0.2.length C']⟩) hr 6).next ((Below.refl _ _).drew)
                · exact hS.f0
                · exact hS.f1
                · exact fun _ _ _ => rfl
                · exact (hS.be.next hbs nb).next (Nat.le_trans hbs nb.size) ((Below.refl _ _).drew)
                · exact Nat.le_trans hbs nb.size
              have HRW : Hid (∀ (i : Nat) (s : Int × List Int), i < k3 → I.cut.sets[i]? = some s → (∃ u, ua3[i]? = some u ∧ f3 (7 + 2 * i) = some ⟨u, 3, 1, s.2.length, nl s.2⟩) ∧ (∃ u, ub3[i]? = some u ∧ f3 (8 + 2 * i) = some ⟨u, 3, 1, s.2.length, nl s.2⟩)) := hS.out.rows
              have hla := hS.out.la
              have hlb := hS.out.lb
              clear hS hI hs0 hs hu0
              go_wp2
              obtain ⟨yb, hyb⟩ : ∃ q, q = wr.heap.size := ⟨_, rfl⟩
              rw [← hyb] at HY ⊢
              have HLL : Hid (∀ W, Keeps (w.heap.size + 1 + 1 + 1) (w.heap.size + 1 + 1 + 1 + 1) W2.heap.size W2 W → Ints (fun q => q < w.heap.size) W (.slice A' s.2.length C') s.2) := fun W hW =>
                HLG.out W (HBw2.out.trans (hW.below (by omega) (by omega) (by omega)))
              have WF := Lib.hid (cfg3_wf (W2 := W2) (I := I) (va := va) (vb := vb) (xa := xa) (xb := xb) (k := k3) (za := za) (zb := zb) (ua := ua3) (ub := ub3) (s := s) (F0 := upd f3 6 (some ⟨.slice (some ⟨yb, 0, none⟩) 1 1, 105, 2, 1, [.int .i64 s.1, .slice A' s0.2.length C']⟩)) (show w.heap.size + 1 + 1 + 1 < w.heap.size + 1 + 1 + 1 + 1 by omega) (show w.heap.size + 1 + 1 + 1 + 1 < W2.heap.size by omega))
              clear hyb c0 c1 x0 x1 x2 x3 x4 x5 hM hM3 hM4 HLG
--REGION3
              have ok : (planM3 w.heap.size yb za zb (.slice A' s.2.length C') s).ok = true := rfl
              refine region_inv (Inv := fun lq_ aq_ wr => ∃ (e : Nat → Bool) (t : Nat → Value), lq_ = #[e 0, e 1, e 2, e 3, e 4, e 5, e 6, e 7, e 8, e 9, e 10, e 11, e 12, e 13, e 14, e 15, e 16, e 17, e 18, e 19, e 20, e 21] ∧ aq_ = ⟨#[.agg #[.int .i64 I.kind, .int .i64 I.cap, .slice A0 I.items.length C0, .slice A I.cost.length C, .int .i64 I.size, .slice (some ⟨b, off, none⟩) I.sets.length C2], .pointer (some ⟨w.heap.size, 0, none⟩), .pointer (some ⟨w.heap.size + 1, 0, none⟩), .pointer (some ⟨w.heap.size + 1 + 1, 0, none⟩), .pointer (some ⟨w.heap.size + 1 + 1 + 1, 0, none⟩), .pointer (some ⟨w.heap.size + 1 + 1 + 1 + 1, 0, none⟩), undef, u7, undef, u9, undef, .pointer (some ⟨yb, 0, none⟩), .slice A' s.2.length C', .pointer (some ⟨w.heap.size, 0, none⟩), .int .i64 I.kind, .pointer (some ⟨w.heap.size, 1, none⟩), .int .i64 I.cap, .pointer (some ⟨w.heap.size, 4, none⟩), .int .i64 I.size, .agg #[.int .i64 I.kind, .int .i64 I.cap, .slice none 0 0, .slice none 0 0, .int .i64 I.size, .slice none 0 0], .pointer (some ⟨w.heap.size, 0, none⟩), .int .i64 I.kind, .pointer (some ⟨w.heap.size, 1, none⟩), .int .i64 I.cap, .pointer (some ⟨w.heap.size, 4, none⟩), .int .i64 I.size, .agg #[.int .i64 I.kind, .int .i64 I.cap, .slice none 0 0, .slice none 0 0, .int .i64 I.size, .slice none 0 0], .pointer (some ⟨w.heap.size, 2, none⟩), .slice A0 I.items.length C0, .pointer (some ⟨w.heap.size, 2, none⟩), .slice A0 I.items.length C0, .int .i64 (I.items.length : Int), .int .i64 (min ((I.items.length : Int)) 40), .slice A0 k C0, .int .i64 (k : Int), .int .i64 (k : Int), .bool false, u37, u38, u39, u40, u41, u42, u43, u44, u45, u46, u47, u48, u49, u50, u51, u52, u53, u54, u55, .pointer (some ⟨w.heap.size, 3, none⟩), .slice A I.cost.length C, .pointer (some ⟨w.heap.size, 3, none⟩), .slice A I.cost.length C, .int .i64 (I.cost.length : Int), .int .i64 (min ((I.cost.length : Int)) 70), .slice A k2 C, .int .i64 (k2 : Int), .int .i64 (k2 : Int), .bool false, u66, u67, u68, u69, u70, u71, u72, u73, u74, u75, u76, u77, u78, u79, u80, u81, u82, u83, u84, u85, u86, u87, .pointer (some ⟨w.heap.size, 5, none⟩), .slice (some ⟨b, off, none⟩) I.sets.length C2, .pointer (some ⟨w.heap.size, 5, none⟩), .slice (some ⟨b, off, none⟩) I.sets.length C2, .int .i64 (I.sets.length : Int), .int .i64 (min ((I.sets.length : Int)) 40), .slice (some ⟨b, off, none⟩) L3 C2, .int .i64 (L3 : Int), .int .i64 (k3 : Int), .bool true, .pointer (some ⟨b, off + k3 * 2, none⟩), .agg #[.int .i64 s.fst, .slice A' s0.snd.length C'], .pointer (some ⟨yb, 1, none⟩), .slice A' s0.snd.length C', .pointer (some ⟨yb, 1, none⟩), .slice A' s0.snd.length C', .int .i64 (s0.snd.length : Int), .int .i64 (min ((s0.snd.length : Int)) 40), .slice A' s.snd.length C', t 107, t 108, t 109, t 110, t 111, t 112, t 113, t 114, t 115, t 116, t 117, t 118, t 119, t 120, t 121, t 122, t 123, t 124, t 125, t 126, u127, undef, undef], []⟩ ∧ Vals (planM3 w.heap.size yb za zb (.slice A' s.2.length C') s) e t ∧ ((∃ fq, Ap (cfg3 W2 (w.heap.size + 1 + 1 + 1) (w.heap.size + 1 + 1 + 1 + 1) W2.heap.size I va vb xa xb k3 za zb ua3 ub3 s (upd f3 6 (some ⟨.slice (some ⟨yb, 0, none⟩) 1 1, 105, 2, 1, [.int .i64 s.1, .slice A' s0.2.length C']⟩))) e t fq wr) ∧ (e 6 = true → e 5 = true ∧ t 113 = .agg #[.int .i64 s.1, t 112]) ∧ (e 15 = true → e 14 = true ∧ t 122 = .agg #[.int .i64 s.1, t 121]))) (by kernel_rfl) ?step ?start ?done
              case start => exact ⟨fun _ => false, fun j => if j = 107 then u107 else if j = 108 then u108 else if j = 109 then u109 else if j = 110 then u110 else if j = 111 then u111 else if j = 112 then u112 else if j = 113 then u113 else if j = 114 then u114 else if j = 115 then u115 else if j = 116 then u116 else if j = 117 then u117 else if j = 118 then u118 else if j = 119 then u119 else if j = 120 then u120 else if j = 121 then u121 else if j = 122 then u122 else if j = 123 then u123 else if j = 124 then u124 else if j = 125 then u125 else if j = 126 then u126 else undef, rfl, rfl, Vals.start _ _, ⟨⟨_, HY.out.tt _⟩, (fun h_ => by cases h_), (fun h_ => by cases h_)⟩⟩
              case step =>
                rintro lq_ aq_ wr ⟨e, t, rfl, rfl, hs, hm⟩ q_ o ho hi ha
                match q_, ho, hi, ha with
                | 0, ho, hi, ha =>
                  obtain rfl : _ = o := Option.some.inj ho
                  have hi : e 0 = false := hi
                  refine wpOp_step (i := 0) rfl (fun K hK => ?_)
                  have HK : Shut (∀ a w, _ → K a w) := hK
                  clear hK ho
                  have HS := Lib.hid hs
                  have HM := Lib.hid hm
                  have HI := Lib.hid hi
                  clear hs ha hm hi
                  go_simp
                  exact HK.out _ _ ⟨upd e 0 true, upd t 107 _, rfl, rfl, by exact HS.out.put ok (i := 0) rfl, (by obtain ⟨⟨f_, q_⟩, h6_, h15_⟩ := HM.out; exact ⟨⟨f_, q_.of rfl rfl rfl rfl rfl rfl (fun _ => ⟨rfl, rfl⟩) (fun h_ => by first | exact h_ | rfl) (fun h_ => by first | exact h_ | rfl) rfl rfl rfl rfl rfl rfl⟩, h6_, h15_⟩)⟩
                | 1, ho, hi, ha =>
                  obtain rfl : _ = o := Option.some.inj ho
                  have hi : e 1 = false := hi
                  have T0 : t 107 = .pointer (some ⟨w.heap.size + 1 + 1 + 1, 5, none⟩) := hs.val 0 rfl (ha { on := 0, ground := .data } (by simp) rfl)
                  have H0 := Lib.hid T0
                  have xa_ : wr.cell? ⟨w.heap.size + 1 + 1 + 1, 5, none⟩ = some za := (by obtain ⟨⟨f_, q_⟩, h6_, h15_⟩ := hm; exact (objA_2 (q_.la hi)).2.2.1)
                  refine wpOp_step (i := 1) rfl (fun K hK => ?_)
                  have HK : Shut (∀ a w, _ → K a w) := hK
                  clear hK ho
                  have HS := Lib.hid hs
                  have HM := Lib.hid hm
                  have HI := Lib.hid hi
                  clear hs ha hm hi
                  go_simp
                  exact HK.out _ _ ⟨upd e 1 true, upd (upd t 107 _) 108 _, rfl, rfl, by rw [upd_self H0.out]; exact HS.out.put ok (i := 1) rfl, (by obtain ⟨⟨f_, q_⟩, h6_, h15_⟩ := HM.out; exact ⟨⟨f_, q_.of rfl rfl rfl rfl rfl rfl (fun _ => ⟨rfl, rfl⟩) (fun h_ => by first | exact h_ | rfl) (fun h_ => by first | exact h_ | rfl) rfl rfl rfl rfl rfl rfl⟩, h6_, h15_⟩)⟩
                | 2, ho, hi, ha =>
                  obtain rfl : _ = o := Option.some.inj ho
                  have hi : e 2 = false := hi
                  refine wpOp_step (i := 2) rfl (fun K hK => ?_)
                  have HK : Shut (∀ a w, _ → K a w) := hK
                  clear hK ho
                  have HS := Lib.hid hs
                  have HM := Lib.hid hm
                  have HI := Lib.hid hi
                  clear hs ha hm hi
                  go_simp
                  exact HK.out _ _ ⟨upd e 2 true, upd t 109 _, rfl, rfl, by exact HS.out.put ok (i := 2) rfl, (by obtain ⟨⟨f_, q_⟩, h6_, h15_⟩ := HM.out; exact ⟨⟨f_, q_.of rfl rfl rfl rfl rfl rfl (fun _ => ⟨rfl, rfl⟩) (fun h_ => by first | exact h_ | rfl) (fun h_ => by first | exact h_ | rfl) rfl rfl rfl rfl rfl rfl⟩, h6_, h15_⟩)⟩
                | 3, ho, hi, ha =>
                  obtain rfl : _ = o := Option.some.inj ho
                  have hi : e 3 = false := hi
                  have T2 : t 109 = .pointer (some ⟨yb, 0, none⟩) := hs.val 2 rfl (ha { on := 2, ground := .data } (by simp) rfl)
                  have H2 := Lib.hid T2
                  obtain ⟨ya_, yb_⟩ : wr.cell? ⟨yb, 0, none⟩ = some (.int .i64 s.1) ∧ wr.cell? ⟨yb, 1, none⟩ = some (.slice A' s0.2.length C') := (by obtain ⟨⟨f_, q_⟩, h6_, h15_⟩ := hm; exact q_.cells6 (fun _ => ⟨by show 6 ≠ 7 + 2 * k3; omega, by show 6 ≠ 8 + 2 * k3; omega⟩) rfl)
                  refine wpOp_step (i := 3) rfl (fun K hK => ?_)
                  have HK : Shut (∀ a w, _ → K a w) := hK
                  clear hK ho
                  have HS := Lib.hid hs
                  have HM := Lib.hid hm
                  have HI := Lib.hid hi
                  clear hs ha hm hi
                  go_simp
                  exact HK.out _ _ ⟨upd e 3 true, upd (upd t 109 _) 110 _, rfl, rfl, by rw [upd_self H2.out]; exact HS.out.put ok (i := 3) rfl, (by obtain ⟨⟨f_, q_⟩, h6_, h15_⟩ := HM.out; exact ⟨⟨f_, q_.of rfl rfl rfl rfl rfl rfl (fun _ => ⟨rfl, rfl⟩) (fun h_ => by first | exact h_ | rfl) (fun h_ => by first | exact h_ | rfl) rfl rfl rfl rfl rfl rfl⟩, h6_, h15_⟩)⟩
                | 4, ho, hi, ha =>
                  obtain rfl : _ = o := Option.some.inj ho
                  have hi : e 4 = false := hi
                  refine wpOp_step (i := 4) rfl (fun K hK => ?_)
                  have HK : Shut (∀ a w, _ → K a w) := hK
                  clear hK ho
                  have HS := Lib.hid hs
                  have HM := Lib.hid hm
                  have HI := Lib.hid hi
                  clear hs ha hm hi
                  go_simp
                  exact HK.out _ _ ⟨upd e 4 true, upd t 111 _, rfl, rfl, by exact HS.out.put ok (i := 4) rfl, (by obtain ⟨⟨f_, q_⟩, h6_, h15_⟩ := HM.out; exact ⟨⟨f_, q_.of rfl rfl rfl rfl rfl rfl (fun _ => ⟨rfl, rfl⟩) (fun h_ => by first | exact h_ | rfl) (fun h_ => by first | exact h_ | rfl) rfl rfl rfl rfl rfl rfl⟩, h6_, h15_⟩)⟩
                | 5, ho, hi, ha =>
                  obtain rfl : _ = o := Option.some.inj ho
                  have hi : e 5 = false := hi
                  have d1 : e 4 = true := ha { on := 4, ground := .data } (by simp) rfl
                  have TS_ : t 111 = .slice A' s.2.length C' := hs.val 4 rfl d1
                  obtain ⟨⟨f_, q_⟩, h6_, h15_⟩ := hm
                  refine wpOp_step (i := 5) rfl (fun K hK => ?_)
                  refine step_own wr rfl (.const (.slice none 0 0)) (.tmp 111) 65 rfl 3 tt1 (.int .i64 0) 1 8 Tryz.underlying65 tt2 tt3 tt4 tt5 rfl (by decide) (by decide) _ (.slice A' s.2.length C') s.2.length (nl s.2) rfl TS_ (HLL.out _ q_.be) (by rw [nl_length]; omega) nl_one (by omega) ?_
                  intro A_ C_ w' hown hb _ _
                  exact hK _ _ ⟨upd e 5 true, upd t 112 _, rfl, rfl, hs.skip' (i := 5) rfl rfl, ⟨⟨_, q_.own1 WF.out rfl hi hown hb⟩, (fun h_ => absurd (h6_ h_).1 (by rw [hi]; simp)), h15_⟩⟩
                | 6, ho, hi, ha =>
                  obtain rfl : _ = o := Option.some.inj ho
                  have hi : e 6 = false := hi
                  have T3 : t 110 = .int .i64 s.1 := hs.val 3 rfl (ha { on := 3, ground := .data } (by simp) rfl)
                  have H3 := Lib.hid T3
                  have DO : Hid (e 5 = true) := ha { on := 5, ground := .data } (by simp) rfl
                  obtain ⟨as_, cs_, T112⟩ : ∃ a_ c_, t 112 = .slice a_ s.2.length c_ := (by obtain ⟨⟨f_, q_⟩, h6_, h15_⟩ := hm; exact (q_.q1 rfl DO.out).2)
                  have H112 := Lib.hid T112
                  refine wpOp_step (i := 6) rfl (fun K hK => ?_)
                  have HK : Shut (∀ a w, _ → K a w) := hK
                  clear hK ho
                  have HS := Lib.hid hs
                  have HM := Lib.hid hm
                  have HI := Lib.hid hi
                  clear hs ha hm hi
                  go_simp
                  exact HK.out _ _ ⟨upd e 6 true, upd (upd (upd t 110 _) 112 _) 113 _, rfl, rfl, by rw [upd_self H3.out, upd_self H112.out]; exact HS.out.skip' (i := 6) rfl rfl, (by rw [upd_self H3.out, upd_self H112.out]; obtain ⟨⟨f_, q_⟩, h6_, h15_⟩ := HM.out; exact ⟨⟨f_, q_.of rfl rfl rfl rfl rfl rfl (fun _ => ⟨rfl, rfl⟩) (fun h_ => h_) (fun h_ => h_) rfl rfl rfl rfl rfl rfl⟩, (fun _ => ⟨DO.out, by show _ = Value.agg #[_, t 112]; rw [H112.out]; rfl⟩), h15_⟩)⟩
                | 7, ho, hi, ha =>
                  obtain rfl : _ = o := Option.some.inj ho
                  have hi : e 7 = false := hi
                  have DB : Hid (e 6 = true) := ha { on := 6, ground := .data } (by simp) rfl
                  have DO : Hid (e 5 = true) := (by obtain ⟨⟨f_, q_⟩, h6_, h15_⟩ := hm; exact (h6_ DB.out).1)
                  obtain ⟨as_, cs_, T112⟩ : ∃ a_ c_, t 112 = .slice a_ s.2.length c_ := (by obtain ⟨⟨f_, q_⟩, h6_, h15_⟩ := hm; exact (q_.q1 rfl DO.out).2)
                  have T113 : t 113 = .agg #[.int .i64 s.1, .slice as_ s.2.length cs_] := (by obtain ⟨⟨f_, q_⟩, h6_, h15_⟩ := hm; rw [(h6_ DB.out).2, T112])
                  have H112 := Lib.hid T112
                  have H113 := Lib.hid T113
                  clear T112
                  refine wpOp_step (i := 7) rfl (fun K hK => ?_)
                  have HK : Shut (∀ a w, _ → K a w) := hK
                  clear hK ho
                  have HS := Lib.hid hs
                  have HM := Lib.hid hm
                  have HI := Lib.hid hi
                  clear hs ha hm hi
                  go_simp
                  exact HK.out _ _ ⟨upd e 7 true, upd (upd t 113 _) 114 _, rfl, rfl, by rw [upd_self H113.out]; exact HS.out.skip' (i := 7) rfl rfl, (by rw [upd_self H113.out]; obtain ⟨⟨f_, q_⟩, h6_, h15_⟩ := HM.out; exact ⟨⟨_, q_.made1 (cs := #[.int .i64 s.1, .slice as_ s.2.length cs_]) WF.out (fun _ => DO.out) rfl (by show _ = [_, t 112]; rw [H112.out])⟩, h6_, h15_⟩)⟩
                | 8, ho, hi, ha =>
                  obtain rfl : _ = o := Option.some.inj ho
                  have hi : e 8 = false := hi
                  have d1 : e 1 = true := ha { on := 1, ground := .data } (by simp) rfl
                  have d7 : e 7 = true := ha { on := 7, ground := .data } (by simp) rfl
                  have TS_ : t 108 = za := hs.val 1 rfl d1
                  obtain ⟨⟨f_, q_⟩, h6_, h15_⟩ := hm
                  obtain ⟨hb4, g_, TX⟩ := q_.g1 d7
                  have hO := q_.ownA hi
                  obtain ⟨as_, cs_, hsh⟩ : ∃ a_ c_, t 112 = .slice a_ s.2.length c_ := (q_.q1 rfl (q_.y3 rfl d7)).2
                  have hN := (q_.bag.own 4 _ hb4).cells (g := g_) (by show (t 114).ownBlock = some g_; rw [show t 114 = _ from TX]; rfl)
                  refine wpOp_step (i := 8) rfl (fun K hK => ?_)
                  refine step_append_lies wr rfl (.tmp 108) (.tmp 114) 31 rfl W2.heap.size 71 ss1 (.agg #[.int .i64 0, .slice none 0 0]) 2 32 Tryz.underlying31 ss2 ss3 ss4 ss5 rfl (by decide) za k3 (flS (I.cut.sets.take k3) ua3) TS_ hO ⟨g_, 0, none⟩ 1 1 [.int .i64 s.1, t 112] TX rfl hN (one_pair hsh) (by omega) (by unfold maxLen; omega) (by omega) q_.sz wr.heap.size rfl ?_
                  intro g' c' w' hown hgrow hat _
                  exact hK _ _ ⟨upd e 8 true, upd t 115 _, rfl, rfl, hs.skip' (i := 8) rfl rfl, ⟨⟨_, q_.app1 WF.out hi d7 hown hgrow hat⟩, h6_, h15_⟩⟩
                | 9, ho, hi, ha =>
                  obtain rfl : _ = o := Option.some.inj ho
                  have hi : e 9 = false := hi
                  refine wpOp_step (i := 9) rfl (fun K hK => ?_)
                  have HK : Shut (∀ a w, _ → K a w) := hK
                  clear hK ho
                  have HS := Lib.hid hs
                  have HM := Lib.hid hm
                  have HI := Lib.hid hi
                  clear hs ha hm hi
                  go_simp
                  exact HK.out _ _ ⟨upd e 9 true, upd t 116 _, rfl, rfl, by exact HS.out.put ok (i := 9) rfl, (by obtain ⟨⟨f_, q_⟩, h6_, h15_⟩ := HM.out; exact ⟨⟨f_, q_.of rfl rfl rfl rfl rfl rfl (fun _ => ⟨rfl, rfl⟩) (fun h_ => by first | exact h_ | rfl) (fun h_ => by first | exact h_ | rfl) rfl rfl rfl rfl rfl rfl⟩, h6_, h15_⟩)⟩
                | 10, ho, hi, ha =>
                  obtain rfl : _ = o := Option.some.inj ho
                  have hi : e 10 = false := hi
                  have T9 : t 116 = .pointer (some ⟨w.heap.size + 1 + 1 + 1 + 1, 5, none⟩) := hs.val 9 rfl (ha { on := 9, ground := .data } (by simp) rfl)
                  have H9 := Lib.hid T9
                  have xb_ : wr.cell? ⟨w.heap.size + 1 + 1 + 1 + 1, 5, none⟩ = some zb := (by obtain ⟨⟨f_, q_⟩, h6_, h15_⟩ := hm; exact (objB_2 (q_.lb hi)).2.2.1)
                  refine wpOp_step (i := 10) rfl (fun K hK => ?_)
                  have HK : Shut (∀ a w, _ → K a w) := hK
                  clear hK ho
                  have HS := Lib.hid hs
                  have HM := Lib.hid hm
                  have HI := Lib.hid hi
                  clear hs ha hm hi
                  go_simp
                  exact HK.out _ _ ⟨upd e 10 true, upd (upd t 116 _) 117 _, rfl, rfl, by rw [upd_self H9.out]; exact HS.out.put ok (i := 10) rfl, (by obtain ⟨⟨f_, q_⟩, h6_, h15_⟩ := HM.out; exact ⟨⟨f_, q_.of rfl rfl rfl rfl rfl rfl (fun _ => ⟨rfl, rfl⟩) (fun h_ => by first | exact h_ | rfl) (fun h_ => by first | exact h_ | rfl) rfl rfl rfl rfl rfl rfl⟩, h6_, h15_⟩)⟩
                | 11, ho, hi, ha =>
                  obtain rfl : _ = o := Option.some.inj ho
                  have hi : e 11 = false := hi
                  refine wpOp_step (i := 11) rfl (fun K hK => ?_)
                  have HK : Shut (∀ a w, _ → K a w) := hK
                  clear hK ho
                  have HS := Lib.hid hs
                  have HM := Lib.hid hm
                  have HI := Lib.hid hi
                  clear hs ha hm hi
                  go_simp
                  exact HK.out _ _ ⟨upd e 11 true, upd t 118 _, rfl, rfl, by exact HS.out.put ok (i := 11) rfl, (by obtain ⟨⟨f_, q_⟩, h6_, h15_⟩ := HM.out; exact ⟨⟨f_, q_.of rfl rfl rfl rfl rfl rfl (fun _ => ⟨rfl, rfl⟩) (fun h_ => by first | exact h_ | rfl) (fun h_ => by first | exact h_ | rfl) rfl rfl rfl rfl rfl rfl⟩, h6_, h15_⟩)⟩
                | 12, ho, hi, ha =>
                  obtain rfl : _ = o := Option.some.inj ho
                  have hi : e 12 = false := hi
                  have T11 : t 118 = .pointer (some ⟨yb, 0, none⟩) := hs.val 11 rfl (ha { on := 11, ground := .data } (by simp) rfl)
                  have H11 := Lib.hid T11
                  obtain ⟨ya_, yb_⟩ : wr.cell? ⟨yb, 0, none⟩ = some (.int .i64 s.1) ∧ wr.cell? ⟨yb, 1, none⟩ = some (.slice A' s0.2.length C') := (by obtain ⟨⟨f_, q_⟩, h6_, h15_⟩ := hm; exact q_.cells6 (fun _ => ⟨by show 6 ≠ 7 + 2 * k3; omega, by show 6 ≠ 8 + 2 * k3; omega⟩) rfl)
                  refine wpOp_step (i := 12) rfl (fun K hK => ?_)
                  have HK : Shut (∀ a w, _ → K a w) := hK
                  clear hK ho
                  have HS := Lib.hid hs
                  have HM := Lib.hid hm
                  have HI := Lib.hid hi
                  clear hs ha hm hi
                  go_simp
                  exact HK.out _ _ ⟨upd e 12 true, upd (upd t 118 _) 119 _, rfl, rfl, by rw [upd_self H11.out]; exact HS.out.put ok (i := 12) rfl, (by obtain ⟨⟨f_, q_⟩, h6_, h15_⟩ := HM.out; exact ⟨⟨f_, q_.of rfl rfl rfl rfl rfl rfl (fun _ => ⟨rfl, rfl⟩) (fun h_ => by first | exact h_ | rfl) (fun h_ => by first | exact h_ | rfl) rfl rfl rfl rfl rfl rfl⟩, h6_, h15_⟩)⟩
                | 13, ho, hi, ha =>
                  obtain rfl : _ = o := Option.some.inj ho
                  have hi : e 13 = false := hi
                  refine wpOp_step (i := 13) rfl (fun K hK => ?_)
                  have HK : Shut (∀ a w, _ → K a w) := hK
                  clear hK ho
                  have HS := Lib.hid hs
                  have HM := Lib.hid hm
                  have HI := Lib.hid hi
                  clear hs ha hm hi
                  go_simp
                  exact HK.out _ _ ⟨upd e 13 true, upd t 120 _, rfl, rfl, by exact HS.out.put ok (i := 13) rfl, (by obtain ⟨⟨f_, q_⟩, h6_, h15_⟩ := HM.out; exact ⟨⟨f_, q_.of rfl rfl rfl rfl rfl rfl (fun _ => ⟨rfl, rfl⟩) (fun h_ => by first | exact h_ | rfl) (fun h_ => by first | exact h_ | rfl) rfl rfl rfl rfl rfl rfl⟩, h6_, h15_⟩)⟩
                | 14, ho, hi, ha =>
                  obtain rfl : _ = o := Option.some.inj ho
                  have hi : e 14 = false := hi
                  have d1 : e 13 = true := ha { on := 13, ground := .data } (by simp) rfl
                  have TS_ : t 120 = .slice A' s.2.length C' := hs.val 13 rfl d1
                  obtain ⟨⟨f_, q_⟩, h6_, h15_⟩ := hm
                  refine wpOp_step (i := 14) rfl (fun K hK => ?_)
                  refine step_own wr rfl (.const (.slice none 0 0)) (.tmp 120) 65 rfl 3 tt1 (.int .i64 0) 1 8 Tryz.underlying65 tt2 tt3 tt4 tt5 rfl (by decide) (by decide) _ (.slice A' s.2.length C') s.2.length (nl s.2) rfl TS_ (HLL.out _ q_.be) (by rw [nl_length]; omega) nl_one (by omega) ?_
                  intro A_ C_ w' hown hb _ _
                  exact hK _ _ ⟨upd e 14 true, upd t 121 _, rfl, rfl, hs.skip' (i := 14) rfl rfl, ⟨⟨_, q_.own2 WF.out rfl hi hown hb⟩, h6_, (fun h_ => absurd (h15_ h_).1 (by rw [hi]; simp))⟩⟩
                | 15, ho, hi, ha =>
                  obtain rfl : _ = o := Option.some.inj ho
                  have hi : e 15 = false := hi
                  have T12 : t 119 = .int .i64 s.1 := hs.val 12 rfl (ha { on := 12, ground := .data } (by simp) rfl)
                  have H12 := Lib.hid T12
                  have DO : Hid (e 14 = true) := ha { on := 14, ground := .data } (by simp) rfl
                  obtain ⟨as_, cs_, T121⟩ : ∃ a_ c_, t 121 = .slice a_ s.2.length c_ := (by obtain ⟨⟨f_, q_⟩, h6_, h15_⟩ := hm; exact (q_.q2 rfl DO.out).2)
                  have H121 := Lib.hid T121
                  refine wpOp_step (i := 15) rfl (fun K hK => ?_)
                  have HK : Shut (∀ a w, _ → K a w) := hK
                  clear hK ho
                  have HS := Lib.hid hs
                  have HM := Lib.hid hm
                  have HI := Lib.hid hi
                  clear hs ha hm hi
                  go_simp
                  exact HK.out _ _ ⟨upd e 15 true, upd (upd (upd t 119 _) 121 _) 122 _, rfl, rfl, by rw [upd_self H12.out, upd_self H121.out]; exact HS.out.skip' (i := 15) rfl rfl, (by rw [upd_self H12.out, upd_self H121.out]; obtain ⟨⟨f_, q_⟩, h6_, h15_⟩ := HM.out; exact ⟨⟨f_, q_.of rfl rfl rfl rfl rfl rfl (fun _ => ⟨rfl, rfl⟩) (fun h_ => h_) (fun h_ => h_) rfl rfl rfl rfl rfl rfl⟩, h6_, (fun _ => ⟨DO.out, by show _ = Value.agg #[_, t 121]; rw [H121.out]; rfl⟩)⟩)⟩
                | 16, ho, hi, ha =>
                  obtain rfl : _ = o := Option.some.inj ho
                  have hi : e 16 = false := hi
                  have DB : Hid (e 15 = true) := ha { on := 15, ground := .data } (by simp) rfl
                  have DO : Hid (e 14 = true) := (by obtain ⟨⟨f_, q_⟩, h6_, h15_⟩ := hm; exact (h15_ DB.out).1)
                  obtain ⟨as_, cs_, T121⟩ : ∃ a_ c_, t 121 = .slice a_ s.2.length c_ := (by obtain ⟨⟨f_, q_⟩, h6_, h15_⟩ := hm; exact (q_.q2 rfl DO.out).2)
                  have T122 : t 122 = .agg #[.int .i64 s.1, .slice as_ s.2.length cs_] := (by obtain ⟨⟨f_, q_⟩, h6_, h15_⟩ := hm; rw [(h15_ DB.out).2, T121])
                  have H121 := Lib.hid T121
                  have H122 := Lib.hid T122
                  clear T121
                  refine wpOp_step (i := 16) rfl (fun K hK => ?_)
                  have HK : Shut (∀ a w, _ → K a w) := hK
                  clear hK ho
                  have HS := Lib.hid hs
                  have HM := Lib.hid hm
                  have HI := Lib.hid hi
                  clear hs ha hm hi
                  go_simp
                  exact HK.out _ _ ⟨upd e 16 true, upd (upd t 122 _) 123 _, rfl, rfl, by rw [upd_self H122.out]; exact HS.out.skip' (i := 16) rfl rfl, (by rw [upd_self H122.out]; obtain ⟨⟨f_, q_⟩, h6_, h15_⟩ := HM.out; exact ⟨⟨_, q_.made2 (cs := #[.int .i64 s.1, .slice as_ s.2.length cs_]) WF.out (fun _ => DO.out) rfl (by show _ = [_, t 121]; rw [H121.out])⟩, h6_, h15_⟩)⟩
                | 17, ho, hi, ha =>
                  obtain rfl : _ = o := Option.some.inj ho
                  have hi : e 17 = false := hi
                  have d1 : e 10 = true := ha { on := 10, ground := .data } (by simp) rfl
                  have d7 : e 16 = true := ha { on := 16, ground := .data } (by simp) rfl
                  have TS_ : t 117 = zb := hs.val 10 rfl d1
                  obtain ⟨⟨f_, q_⟩, h6_, h15_⟩ := hm
                  obtain ⟨hb4, g_, TX⟩ := q_.g2 d7
                  have hO := q_.ownB hi
                  obtain ⟨as_, cs_, hsh⟩ : ∃ a_ c_, t 121 = .slice a_ s.2.length c_ := (q_.q2 rfl (q_.y4 rfl d7)).2
                  have hN := (q_.bag.own 5 _ hb4).cells (g := g_) (by show (t 123).ownBlock = some g_; rw [show t 123 = _ from TX]; rfl)
                  refine wpOp_step (i := 17) rfl (fun K hK => ?_)
                  refine step_append_lies wr rfl (.tmp 117) (.tmp 123) 34 rfl W2.heap.size 72 dd1 (.agg #[.int .i64 0, .slice none 0 0]) 2 32 Tryz.underlying34 dd2 dd3 dd4 dd5 rfl (by decide) zb k3 (flS (I.cut.sets.take k3) ub3) TS_ hO ⟨g_, 0, none⟩ 1 1 [.int .i64 s.1, t 121] TX rfl hN (one_pair hsh) (by omega) (by unfold maxLen; omega) (by omega) q_.sz wr.heap.size rfl ?_
                  intro g' c' w' hown hgrow hat _
                  exact hK _ _ ⟨upd e 17 true, upd t 124 _, rfl, rfl, hs.skip' (i := 17) rfl rfl, ⟨⟨_, q_.app2 WF.out hi d7 hown hgrow hat⟩, h6_, h15_⟩⟩
                | 18, ho, hi, ha =>
                  obtain rfl : _ = o := Option.some.inj ho
                  have hi : e 18 = false := hi
                  refine wpOp_step (i := 18) rfl (fun K hK => ?_)
                  have HK : Shut (∀ a w, _ → K a w) := hK
                  clear hK ho
                  have HS := Lib.hid hs
                  have HM := Lib.hid hm
                  have HI := Lib.hid hi
                  clear hs ha hm hi
                  go_simp
                  exact HK.out _ _ ⟨upd e 18 true, upd t 125 _, rfl, rfl, by exact HS.out.put ok (i := 18) rfl, (by obtain ⟨⟨f_, q_⟩, h6_, h15_⟩ := HM.out; exact ⟨⟨f_, q_.of rfl rfl rfl rfl rfl rfl (fun _ => ⟨rfl, rfl⟩) (fun h_ => by first | exact h_ | rfl) (fun h_ => by first | exact h_ | rfl) rfl rfl rfl rfl rfl rfl⟩, h6_, h15_⟩)⟩
                | 19, ho, hi, ha =>
                  obtain rfl : _ = o := Option.some.inj ho
                  have hi : e 19 = false := hi
                  have T18 : t 125 = .pointer (some ⟨w.heap.size + 1 + 1 + 1, 5, none⟩) := hs.val 18 rfl (ha { on := 18, ground := .data } (by simp) rfl)
                  have H18 := Lib.hid T18
                  have DL : Hid (e 1 = true) := ha { on := 1, ground := .phase } (by simp) rfl
                  have DP : Hid (e 8 = true) := ha { on := 8, ground := .data } (by simp) rfl
                  obtain ⟨gs_, cs_, T115⟩ : ∃ g_ c_, t 115 = .slice (some ⟨g_, 0, none⟩) (k3 + 1) c_ := (by obtain ⟨⟨f_, q_⟩, h6_, h15_⟩ := hm; exact q_.shape1 DP.out)
                  have H115 := Lib.hid T115
                  have XB_ : ∃ v_, wr.heap[(w.heap.size + 1 + 1 + 1)]? = some ((fun v => objA I va xa v) v_) := (by obtain ⟨⟨f_, q_⟩, h6_, h15_⟩ := hm; exact ⟨_, q_.xa⟩)
                  obtain ⟨v_, XB_⟩ := XB_
                  have XC := Lib.hid XB_
                  obtain ⟨c2_, c3_, c5_, fr_⟩ := objA_2 XB_
                  have cc_ := c5_
                  have fc_ := fr_ 5
                  clear fr_ XB_ c2_ c3_ c5_
                  refine wpOp_step (i := 19) rfl (fun K hK => ?_)
                  have HK : Shut (∀ a w, _ → K a w) := hK
                  clear hK ho
                  have HS := Lib.hid hs
                  have HM := Lib.hid hm
                  have HI := Lib.hid hi
                  clear hs ha hm hi
                  go_simp
                  exact HK.out _ _ ⟨upd e 19 true, (upd (upd t 125 _) 115 _), rfl, rfl, by rw [upd_self H18.out, upd_self H115.out]; exact HS.out.skip (i := 19) rfl, (by rw [upd_self H18.out, upd_self H115.out]; obtain ⟨⟨f_, q_⟩, h6_, h15_⟩ := HM.out; exact ⟨⟨f_, q_.st1 WF.out DL.out DP.out (o := 5) (by show (wr.setCell ⟨(w.heap.size + 1 + 1 + 1), 5, none⟩ _).heap[(w.heap.size + 1 + 1 + 1)]? = some ((fun v => objA I va xa v) (t 115)); rw [H115.out]; exact heap_setCell_same wr _ 5 _ _ _ XC.out)⟩, h6_, h15_⟩)⟩
                | 20, ho, hi, ha =>
                  obtain rfl : _ = o := Option.some.inj ho
                  have hi : e 20 = false := hi
                  refine wpOp_step (i := 20) rfl (fun K hK => ?_)
                  have HK : Shut (∀ a w, _ → K a w) := hK
                  clear hK ho
                  have HS := Lib.hid hs
                  have HM := Lib.hid hm
                  have HI := Lib.hid hi
                  clear hs ha hm hi
                  go_simp
                  exact HK.out _ _ ⟨upd e 20 true, upd t 126 _, rfl, rfl, by exact HS.out.put ok (i := 20) rfl, (by obtain ⟨⟨f_, q_⟩, h6_, h15_⟩ := HM.out; exact ⟨⟨f_, q_.of rfl rfl rfl rfl rfl rfl (fun _ => ⟨rfl, rfl⟩) (fun h_ => by first | exact h_ | rfl) (fun h_ => by first | exact h_ | rfl) rfl rfl rfl rfl rfl rfl⟩, h6_, h15_⟩)⟩
                | 21, ho, hi, ha =>
                  obtain rfl : _ = o := Option.some.inj ho
                  have hi : e 21 = false := hi
                  have T20 : t 126 = .pointer (some ⟨w.heap.size + 1 + 1 + 1 + 1, 5, none⟩) := hs.val 20 rfl (ha { on := 20, ground := .data } (by simp) rfl)
                  have H20 := Lib.hid T20
                  have DL : Hid (e 10 = true) := ha { on := 10, ground := .phase } (by simp) rfl
                  have DP : Hid (e 17 = true) := ha { on := 17, ground := .data } (by simp) rfl
                  obtain ⟨gs_, cs_, T124⟩ : ∃ g_ c_, t 124 = .slice (some ⟨g_, 0, none⟩) (k3 + 1) c_ := (by obtain ⟨⟨f_, q_⟩, h6_, h15_⟩ := hm; exact q_.shape2 DP.out)
                  have H124 := Lib.hid T124
                  have XB_ : ∃ v_, wr.heap[(w.heap.size + 1 + 1 + 1 + 1)]? = some ((fun v => objB I vb xb v) v_) := (by obtain ⟨⟨f_, q_⟩, h6_, h15_⟩ := hm; exact ⟨_, q_.xb⟩)
                  obtain ⟨v_, XB_⟩ := XB_
                  have XC := Lib.hid XB_
                  obtain ⟨c2_, c3_, c5_, fr_⟩ := objB_2 XB_
                  have cc_ := c5_
                  have fc_ := fr_ 5
                  clear fr_ XB_ c2_ c3_ c5_
                  refine wpOp_step (i := 21) rfl (fun K hK => ?_)
                  have HK : Shut (∀ a w, _ → K a w) := hK
                  clear hK ho
                  have HS := Lib.hid hs
                  have HM := Lib.hid hm
                  have HI := Lib.hid hi
                  clear hs ha hm hi
                  go_simp
                  exact HK.out _ _ ⟨upd e 21 true, (upd (upd t 126 _) 124 _), rfl, rfl, by rw [upd_self H20.out, upd_self H124.out]; exact HS.out.skip (i := 21) rfl, (by rw [upd_self H20.out, upd_self H124.out]; obtain ⟨⟨f_, q_⟩, h6_, h15_⟩ := HM.out; exact ⟨⟨f_, q_.st2 WF.out DL.out DP.out (o := 5) (by show (wr.setCell ⟨(w.heap.size + 1 + 1 + 1 + 1), 5, none⟩ _).heap[(w.heap.size + 1 + 1 + 1 + 1)]? = some ((fun v => objB I vb xb v) (t 124)); rw [H124.out]; exact heap_setCell_same wr _ 5 _ _ _ XC.out)⟩, h6_, h15_⟩)⟩
                | k + 22, ho, hi, ha => simp at ho
              case done =>
                rintro lq_ aq_ wr ⟨e, t, rfl, rfl, hs, hm⟩ hr
                have hd := ready_done hr rfl (by decide +kernel)
--REGION3END
                obtain ⟨⟨fq, q⟩, _, _⟩ := hm
                have E : Hid (∃ za' zb' ua' ub' f', St3 (w.heap.size + 1 + 1 + 1) (w.heap.size + 1 + 1 + 1 + 1) W2.heap.size I va vb xa xb W2 (k3 + 1) za' zb' ua' ub' f' wr) := by
                  have q0 := q.f0
                  have q1 := q.f1
                  have xa_ := q.xa
                  have xb_ := q.xb
                  have o1 := (q.q1 rfl (hd 5 (by decide))).1
                  have o2 := (q.q2 rfl (hd 14 (by decide))).1
                  rw [show e (cfg3 W2 (w.heap.size + 1 + 1 + 1) (w.heap.size + 1 + 1 + 1 + 1) W2.heap.size I va vb xa xb k3 za zb ua3 ub3 s (upd f3 6 (some ⟨.slice (some ⟨yb, 0, none⟩) 1 1, 105, 2, 1, [.int .i64 s.1, .slice A' s0.2.length C']⟩))).p1 = true from hd 8 (by decide), if_pos rfl] at q0
                  rw [show e (cfg3 W2 (w.heap.size + 1 + 1 + 1) (w.heap.size + 1 + 1 + 1 + 1) W2.heap.size I va vb xa xb k3 za zb ua3 ub3 s (upd f3 6 (some ⟨.slice (some ⟨yb, 0, none⟩) 1 1, 105, 2, 1, [.int .i64 s.1, .slice A' s0.2.length C']⟩))).p2 = true from hd 17 (by decide), if_pos rfl] at q1
                  rw [show e (cfg3 W2 (w.heap.size + 1 + 1 + 1) (w.heap.size + 1 + 1 + 1 + 1) W2.heap.size I va vb xa xb k3 za zb ua3 ub3 s (upd f3 6 (some ⟨.slice (some ⟨yb, 0, none⟩) 1 1, 105, 2, 1, [.int .i64 s.1, .slice A' s0.2.length C']⟩))).s1 = true from hd 19 (by decide), if_pos rfl] at xa_
                  rw [show e (cfg3 W2 (w.heap.size + 1 + 1 + 1) (w.heap.size + 1 + 1 + 1 + 1) W2.heap.size I va vb xa xb k3 za zb ua3 ub3 s (upd f3 6 (some ⟨.slice (some ⟨yb, 0, none⟩) 1 1, 105, 2, 1, [.int .i64 s.1, .slice A' s0.2.length C']⟩))).s2 = true from hd 21 (by decide), if_pos rfl] at xb_
                  have htk : I.cut.sets.take (k3 + 1) = I.cut.sets.take k3 ++ [s] := by rw [List.take_add_one, HCUT.out]; rfl
                  have hkl : k3 < I.cut.sets.length := (List.getElem?_eq_some_iff.1 HCUT.out).1
                  have htl : (I.cut.sets.take k3).length = k3 := by rw [List.length_take]; omega
                  refine ⟨t 115, t 124, ua3 ++ [t 112], ub3 ++ [t 121], fq, xa_, xb_, q.bag, by rw [htk, flS_append (by rw [hla, htl])]; exact q0, by rw [htk, flS_append (by rw [hlb, htl])]; exact q1, by simp [hla], by simp [hlb], fun i r' hi hr' => ?_, q.be⟩
                  by_cases hik : i < k3
                  · obtain ⟨⟨u1, e1, e2⟩, ⟨u2, e3, e4⟩⟩ := HRW.out i r' hik hr'
                    exact ⟨⟨u1, by rw [List.getElem?_append_left (by omega)]; exact e1, ((q.rest _ (by omega) (fun _ => ⟨by show _ ≠ 7 + 2 * k3; omega, by show _ ≠ 8 + 2 * k3; omega⟩)).trans (upd_ne f3 _ (by omega))).trans e2⟩,
                      ⟨u2, by rw [List.getElem?_append_left (by omega)]; exact e3, ((q.rest _ (by omega) (fun _ => ⟨by show _ ≠ 7 + 2 * k3; omega, by show _ ≠ 8 + 2 * k3; omega⟩)).trans (upd_ne f3 _ (by omega))).trans e4⟩⟩
                  · obtain rfl : i = k3 := by omega
                    have hc := HCUT.out
                    rw [hr'] at hc
                    obtain rfl : r' = s := by simpa using hc
                    exact ⟨⟨t 112, by rw [← hla]; simp, o1⟩, ⟨t 121, by rw [← hlb]; simp, o2⟩⟩
                clear hd hr hs ok q WF HY
                generalize t 107 = t107, t 108 = t108, t 109 = t109, t 110 = t110, t 111 = t111, t 112 = t112, t 113 = t113, t 114 = t114, t 115 = t115, t 116 = t116, t 117 = t117, t 118 = t118, t 119 = t119, t 120 = t120, t 121 = t121, t 122 = t122, t 123 = t123, t 124 = t124, t 125 = t125, t 126 = t126 at *
                go_wp2
                go_roundw
                case rel => obtain ⟨za', zb', ua', ub', f', hE⟩ := E.out; exact ⟨k3 + 1, za', zb', ua', ub', f', by omega, by go_num, hE⟩
                case measure => simp [intOf]; omega
            · obtain rfl : k3 = L3 := by omega
              have hS := hS.out
              obtain ⟨p0, p1, p2, p3, p4, p5⟩ : IBox (w.heap.size + 1 + 1 + 1) (.int .i64 I.kind) (.int .i64 I.cap) va xa (.int .i64 I.size) za wr := IBlk.box (T := 33) hS.a
              obtain ⟨d0, d1, d2, d3, d4, d5⟩ : IBox (w.heap.size + 1 + 1 + 1 + 1) (.int .i64 I.kind) (.int .i64 I.cap) vb xb (.int .i64 I.size) zb wr := IBlk.box (T := 36) hS.b
              have RA := HRA2.out.below hBr.out (by omega)
              have RB := HRB2.out.below hBr.out (by omega)
              obtain ⟨a0, a1, a2, a3, a4, a5⟩ := RA.box
              obtain ⟨b0, b1, b2, b3, b4, b5⟩ := RB.box
              have fa := fun o => RA.free o
              have fb := fun o => RB.free o
              have HS3 := Lib.hid hS
              clear hS
              go_wp2
              have HE : Hid (∃ uc us, MadeA (w.heap.size + 1 + 1 + 1 + 1 + 1) wr va xa za I.cut uc us ∧ Ins (fun q => w.heap.size + 1 + 1 + 1 + 1 + 1 ≤ q) (fun q => w.heap.size + 1 + 1 + 1 + 1 + 1 ≤ q) wr (inV I.cut vb xb zb) I.cut) := by
                have S3 := HS3.out
                have S2 := HS2.out
                have h1 := HSZ1.out
                have h2 := HSZ2.out
                have nI : I.cut.items.length = k := by show (I.items.take 40).length = k; rw [List.length_take]; omega
                have nC : I.cut.cost.length = k2 := by show ((I.cost.take 70).map (fun r => r.take 70)).length = k2; rw [List.length_map, List.length_take]; omega
                have nS : I.cut.sets.length = k3 := by show ((I.sets.take 40).map (fun s => (s.1, s.2.take 40))).length = k3; rw [List.length_map, List.length_take]; omega
                have tI : I.items.take k = I.cut.items := by
                  show I.items.take k = I.items.take 40
                  rw [← eL]
                  by_cases hc : I.items.length ≤ 40
                  · rw [Nat.min_eq_left hc, List.take_of_length_le (Nat.le_refl _), List.take_of_length_le hc]
                  · rw [Nat.min_eq_right (by omega)]
                have tS : I.cut.sets.take k3 = I.cut.sets := List.take_of_length_le (by omega)
                -- all of W2 below its size stands, but the two variables
                have kp : ∀ {T : TypeId} {sz n : Nat} {v : Value} {cs : List Value}, W2.ownsRow (w.heap.size + 1 + 1 + 1 + 1 + 1) T sz v n cs → wr.ownsRow (w.heap.size + 1 + 1 + 1 + 1 + 1) T sz v n cs := fun ho =>
                  own_keeps ho (fun q hq => ⟨(ho.lt q hq).2, by have := (ho.lt q hq).1; omega, by have := (ho.lt q hq).1; omega⟩) S3.be
                have l1 : w.heap.size + 1 + 1 + 1 + 1 + 1 ≤ W1.heap.size := h1
                have l2 : w.heap.size + 1 + 1 + 1 + 1 + 1 ≤ W2.heap.size := Nat.le_trans h1 h2
                have oI := kp HIA2.out
                have oJ := kp HIB2.out
                have oC := kp ((S2.bag.own 0 _ S2.f0).mono l1)
                have oD := kp ((S2.bag.own 1 _ S2.f1).mono l1)
                have oS := (S3.bag.own 0 _ S3.f0).mono l2
                have oT := (S3.bag.own 1 _ S3.f1).mono l2
                rw [tI] at oI oJ
                rw [tS] at oS oT
                refine ⟨ua, ua3, ⟨by rw [nI]; exact oI, by rw [nC]; exact S2.la, by rw [nC]; exact oC, fun i r u hr hu => ?_, by rw [nS]; exact S3.la, by rw [nS]; exact oS, fun i s u hs hu => ?_⟩, ⟨⟨vb, xb, zb, ub, ub3, rfl, ?_, ⟨by rw [nC]; exact S2.lb, ?_, fun i r u hr hu => ?_⟩, ⟨by rw [nS]; exact S3.lb, ?_, fun i s u hs hu => ?_⟩⟩⟩⟩
                · have hil : i < k2 := by rw [← nC]; exact (List.getElem?_eq_some_iff.1 hr).1
                  obtain ⟨⟨u1, e1, e2⟩, _⟩ := S2.rows i r hil hr
                  obtain rfl : u1 = u := by rw [e1] at hu; cases hu; rfl
                  exact ⟨kp ((S2.bag.own _ _ e2).mono l1), S2.bag.ne _ 0 _ _ (by omega) e2 S2.f0⟩
                · have hil : i < k3 := by rw [← nS]; exact (List.getElem?_eq_some_iff.1 hs).1
                  obtain ⟨⟨u1, e1, e2⟩, _⟩ := S3.rows i s hil hs
                  obtain rfl : u1 = u := by rw [e1] at hu; cases hu; rfl
                  exact ⟨(S3.bag.own _ _ e2).mono l2, S3.bag.ne _ 0 _ _ (by omega) e2 S3.f0⟩
                · show Lies _ wr vb I.cut.items.length (fl2 I.cut.items)
                  rw [nI]
                  exact (lies_of_own oJ).imp fun q hq => (oJ.lt q hq).1
                · rw [nC]
                  exact (lies_of_own oD).imp fun q hq => (oD.lt q hq).1
                · have hil : i < k2 := by rw [← nC]; exact (List.getElem?_eq_some_iff.1 hr).1
                  obtain ⟨_, ⟨u1, e1, e2⟩⟩ := S2.rows i r hil hr
                  obtain rfl : u1 = u := by rw [e1] at hu; cases hu; rfl
                  exact ints_of_own (kp ((S2.bag.own _ _ e2).mono l1)) rfl (fun q hq => hq)
                · rw [nS]
                  exact (lies_of_own oT).imp fun q hq => (oT.lt q hq).1
                · have hil : i < k3 := by rw [← nS]; exact (List.getElem?_eq_some_iff.1 hs).1
                  obtain ⟨_, ⟨u1, e1, e2⟩⟩ := S3.rows i s hil hs
                  obtain rfl : u1 = u := by rw [e1] at hu; cases hu; rfl
                  exact ints_of_own ((S3.bag.own _ _ e2).mono l2) rfl (fun q hq => hq)
              have HBe := Lib.hid (HBw2.out.trans (hBr.out.mono (show w.heap.size ≤ _ by omega)))
              obtain ⟨qA1, nA1, cA1, eA1⟩ := own_slice HIA2.out
              obtain ⟨qA2, nA2, cA2, eA2⟩ := own_slice (HS2.out.bag.own 0 _ HS2.out.f0)
              obtain ⟨qA3, nA3, cA3, eA3⟩ := own_slice (HS3.out.bag.own 0 _ HS3.out.f0)
              obtain ⟨qB1, nB1, cB1, eB1⟩ := own_slice HIB2.out
              obtain ⟨qB2, nB2, cB2, eB2⟩ := own_slice (HS2.out.bag.own 1 _ HS2.out.f1)
              obtain ⟨qB3, nB3, cB3, eB3⟩ := own_slice (HS3.out.bag.own 1 _ HS3.out.f1)
              simp only at eA2 eA3 eB2 eB3
              clear HS3 HS2 HIA2 HIB2 RA RB
              subst eA1 eA2 eA3 eB1 eB2 eB3
              have HP := Lib.hid (And.intro p0 (And.intro p1 (And.intro p2 (And.intro p3 (And.intro p4 p5)))))
              have HD := Lib.hid (And.intro d0 (And.intro d1 (And.intro d2 (And.intro d3 (And.intro d4 d5)))))
              go_region_held3 (fun w' => w'.cell? ⟨w.heap.size + 1 + 1 + 1, 0, none⟩ = some (.int .i64 I.kind) ∧ w'.cell? ⟨w.heap.size + 1 + 1 + 1, 1, none⟩ = some (.int .i64 I.cap) ∧ w'.cell? ⟨w.heap.size + 1 + 1 + 1, 2, none⟩ = some (.slice qA1 nA1 cA1) ∧ w'.cell? ⟨w.heap.size + 1 + 1 + 1, 3, none⟩ = some (.slice qA2 nA2 cA2) ∧ w'.cell? ⟨w.heap.size + 1 + 1 + 1, 4, none⟩ = some (.int .i64 I.size) ∧ w'.cell? ⟨w.heap.size + 1 + 1 + 1, 5, none⟩ = some (.slice qA3 nA3 cA3) ∧ w'.cell? ⟨w.heap.size + 1 + 1 + 1 + 1, 0, none⟩ = some (.int .i64 I.kind) ∧ w'.cell? ⟨w.heap.size + 1 + 1 + 1 + 1, 1, none⟩ = some (.int .i64 I.cap) ∧ w'.cell? ⟨w.heap.size + 1 + 1 + 1 + 1, 2, none⟩ = some (.slice qB1 nB1 cB1) ∧ w'.cell? ⟨w.heap.size + 1 + 1 + 1 + 1, 3, none⟩ = some (.slice qB2 nB2 cB2) ∧ w'.cell? ⟨w.heap.size + 1 + 1 + 1 + 1, 4, none⟩ = some (.int .i64 I.size) ∧ w'.cell? ⟨w.heap.size + 1 + 1 + 1 + 1, 5, none⟩ = some (.slice qB3 nB3 cB3)) (go_keep) (fail)
              all_goals
                go_wp2
                have lo1 : (w.heap.size + 1) < w.heap.size + 1 + 1 + 1 + 1 + 1 := by omega
                have lo2 : (w.heap.size + 1 + 1) < w.heap.size + 1 + 1 + 1 + 1 + 1 := by omega
                have hi1 : w.heap.size ≤ w.heap.size + 1 := by omega
                have hi2 : w.heap.size ≤ w.heap.size + 1 + 1 := by omega
                obtain ⟨uc', us', hm, hn⟩ := HE.out
                refine bodyPost_ret (v := .tuple #[.agg #[.int .i64 I.kind, .int .i64 I.cap, .slice qA1 nA1 cA1, .slice qA2 nA2 cA2, .int .i64 I.size, .slice qA3 nA3 cA3], .agg #[.int .i64 I.kind, .int .i64 I.cap, .slice qB1 nB1 cB1, .slice qB2 nB2 cB2, .int .i64 I.size, .slice qB3 nB3 cB3]]) (by simp [results, Tryz.results16, go_sem, a0, a1, a2, a3, a4, a5, b0, b1, b2, b3, b4, b5]) rfl ?_
                exact ⟨_, _, _, uc', us', _, _, _, rfl, (((((((((((((hm.low (a := ⟨_, _, none⟩) lo1 _).low (a := ⟨_, _, none⟩) lo1 _).low (a := ⟨_, _, none⟩) lo1 _).low (a := ⟨_, _, none⟩) lo1 _).low (a := ⟨_, _, none⟩) lo1 _).low (a := ⟨_, _, none⟩) lo1 _).low (a := ⟨_, _, none⟩) lo2 _).low (a := ⟨_, _, none⟩) lo2 _).low (a := ⟨_, _, none⟩) lo2 _).low (a := ⟨_, _, none⟩) lo2 _).low (a := ⟨_, _, none⟩) lo2 _).low (a := ⟨_, _, none⟩) lo2 _).next ((Below.refl _ _).drew)).mono (by omega), (((((((((((((hn.low (a := ⟨_, _, none⟩) lo1 _).low (a := ⟨_, _, none⟩) lo1 _).low (a := ⟨_, _, none⟩) lo1 _).low (a := ⟨_, _, none⟩) lo1 _).low (a := ⟨_, _, none⟩) lo1 _).low (a := ⟨_, _, none⟩) lo1 _).low (a := ⟨_, _, none⟩) lo2 _).low (a := ⟨_, _, none⟩) lo2 _).low (a := ⟨_, _, none⟩) lo2 _).low (a := ⟨_, _, none⟩) lo2 _).low (a := ⟨_, _, none⟩) lo2 _).low (a := ⟨_, _, none⟩) lo2 _).next ((Below.refl _ _).drew)).imp (fun q hq => by omega) (fun q hq => by omega), ((((((((((((HBe.out.setCell (p := ⟨_, _, none⟩) hi1 _).setCell (p := ⟨_, _, none⟩) hi1 _).setCell (p := ⟨_, _, none⟩) hi1 _).setCell (p := ⟨_, _, none⟩) hi1 _).setCell (p := ⟨_, _, none⟩) hi1 _).setCell (p := ⟨_, _, none⟩) hi1 _).setCell (p := ⟨_, _, none⟩) hi2 _).setCell (p := ⟨_, _, none⟩) hi2 _).setCell (p := ⟨_, _, none⟩) hi2 _).setCell (p := ⟨_, _, none⟩) hi2 _).setCell (p := ⟨_, _, none⟩) hi2 _).setCell (p := ⟨_, _, none⟩) hi2 _).drew⟩
end Go.Proofs.YtbadingdklenhaaGreatDoor
