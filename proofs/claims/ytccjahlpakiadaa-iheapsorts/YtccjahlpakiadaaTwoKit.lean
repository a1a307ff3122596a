/-
  Two heaps and a list in order, side by side (MmheapSorts, layer 5): each keeps while the others turn.
-/
import Derived.Test.YtccjahlpakiadaaHeapKeep
import Derived.Test.YtccjahlpakiadaaLawAll
namespace Go.Proofs.Ytccjahlpakiadaa.I
set_option maxRecDepth 100000
open Go.RowKit Go.Sort

/-- The heap at hb lies below G, the one at gb from G on, and the list's block behind both. -/
structure TwoH (w : World) (hb gb gs G : Nat) (v : Value) (l : List En) (u : Value) (m : List En) (s : Value) (sl : List En) (W : World) : Prop where
  mk ::
  hh : HeapAt W w.heap.size hb v l
  hg : HeapAt W G gb u m
  es : EntL W gs s sl
  be : Below w.heap.size w W
  wG : w.heap.size ≤ G
  hG : hb < G
  vG : ∀ q, v.ownBlock = some q → q < G
  gS : gb < gs
  uS : ∀ q, u.ownBlock = some q → q < gs
namespace TwoH
variable {w W W' : World} {hb gb gs G : Nat} {v v' u u' s s' : Value} {l l' m m' sl sl' : List En}
theorem under (h : TwoH w hb gb gs G v l u m s sl W) (b : Below (gs + 1) W W') : TwoH w hb gb gs G v l u m s sl W' := by
  have h1 := h.hG
  have h2 := h.hg.ge
  have h3 := h.gS
  have h4 := h.wG
  exact ⟨h.hh.beneath b (by omega) (fun q e => by have := h.vG q e; omega), h.hg.beneath b (by omega) (fun q e => by have := h.uS q e; omega), h.es.kept b.size (b.block _ (by omega)), h.be.trans (b.mono (by omega)), h.wG, h.hG, h.vG, h.gS, h.uS⟩
theorem next (h : TwoH w hb gb gs G v l u m s sl W) (b : Below W.heap.size W W') : TwoH w hb gb gs G v l u m s sl W' := h.under (b.mono h.es.lt)
theorem popH (h : TwoH w hb gb gs G v l u m s sl W) (ho : Off W hb v W') (ha : HeapAt W' w.heap.size hb v' l') (hq : ∀ q, v'.ownBlock = some q → v.ownBlock = some q) : TwoH w hb gb gs G v' l' u m s sl W' := by
  have h1 := h.hG
  have h2 := h.hg.ge
  have h3 := h.gS
  refine ⟨ha, h.hg.offs ho (by omega) (fun e => by have := h.vG _ e; omega) (fun q e => ?_), h.es.off ho (by omega) (fun e => by have := h.vG _ e; omega), h.be.trans (ho.under h.hh.ge (fun q e => (h.hh.row.lt q e).1) h.be.size), h.wG, h.hG, fun q e => h.vG q (hq q e), h.gS, h.uS⟩
  have := (h.hg.row.lt q e).1
  exact ⟨by omega, fun e' => by have := h.vG q e'; omega⟩
theorem popG (h : TwoH w hb gb gs G v l u m s sl W) (ho : Off W gb u W') (ha : HeapAt W' G gb u' m') (hq : ∀ q, u'.ownBlock = some q → u.ownBlock = some q) : TwoH w hb gb gs G v l u' m' s sl W' := by
  have h1 := h.hG
  have h2 := h.hg.ge
  have h3 := h.gS
  have h4 := h.wG
  refine ⟨h.hh.offs ho (by omega) (fun e => by have := (h.hg.row.lt _ e).1; omega) (fun q e => ?_), ha, h.es.off ho (by omega) (fun e => by have := h.uS _ e; omega), h.be.trans (ho.under (by omega) (fun q e => by have := (h.hg.row.lt q e).1; omega) h.be.size), h.wG, h.hG, h.vG, h.gS, fun q e => h.uS q (hq q e)⟩
  have := h.vG q e
  exact ⟨by omega, fun e' => by have := (h.hg.row.lt q e').1; omega⟩
theorem list (h : TwoH w hb gb gs G v l u m s sl W) (e : EntL W gs s' sl') : TwoH w hb gb gs G v l u m s' sl' W :=
  ⟨h.hh, h.hg, e, h.be, h.wG, h.hG, h.vG, h.gS, h.uS⟩
end TwoH
/-- What a round begins with: k entries are left. -/
structure Two (w : World) (hb gb gs G k : Nat) (s : Value) (W : World) : Prop where
  mk ::
  at_ : ∃ v l u m, TwoH w hb gb gs G v l u m s (srt l) W ∧ Right l ∧ Right m ∧ srt m = srt l ∧ l.length = k
/-- Two heaps, the list, and the variables at R, R + 1 and R + 1 + 1. -/
structure TwoM (w : World) (hb gb gs G R : Nat) (v : Value) (l : List En) (u : Value) (m : List En) (s : Value) (sl : List En) (x y z : En) (W : World) : Prop where
  mk ::
  t : TwoH w hb gb gs G v l u m s sl W
  b0 : W.heap[R]? = some (.cells #[.int .i64 x.b, .int .i64 x.d, .int .i64 x.s, .int .i64 x.i] 39 (0, 0))
  b1 : W.heap[R + 1]? = some (.cells #[.int .i64 y.b, .int .i64 y.d, .int .i64 y.s, .int .i64 y.i] 39 (0, 0))
  b2 : W.heap[R + 1 + 1]? = some (.cells #[.int .i64 z.b, .int .i64 z.d, .int .i64 z.s, .int .i64 z.i] 39 (0, 0))
  sR : gs < R
namespace TwoM
variable {w W W' : World} {hb gb gs G R : Nat} {v v' u u' s s' : Value} {l l' m m' sl sl' : List En} {x y z : En}
theorem start (h : TwoH w hb gb gs G v l u m s sl W) : TwoM w hb gb gs G W.heap.size v l u m s sl zeroE zeroE zeroE (((W.alloc (.cells #[.int .i64 0, .int .i64 0, .int .i64 0, .int .i64 0] 39)).alloc (.cells #[.int .i64 0, .int .i64 0, .int .i64 0, .int .i64 0] 39)).alloc (.cells #[.int .i64 0, .int .i64 0, .int .i64 0, .int .i64 0] 39)) := by
  have n0 := heap_alloc_new W (.cells #[.int .i64 0, .int .i64 0, .int .i64 0, .int .i64 0] 39)
  have B1 : Below W.heap.size W (W.alloc (.cells #[.int .i64 0, .int .i64 0, .int .i64 0, .int .i64 0] 39)) := (Below.refl _ _).alloc (Nat.le_refl _) _
  have s1 : (W.alloc (.cells #[.int .i64 0, .int .i64 0, .int .i64 0, .int .i64 0] 39)).heap.size = W.heap.size + 1 := by simp
  generalize W.alloc (.cells #[.int .i64 0, .int .i64 0, .int .i64 0, .int .i64 0] 39) = W1 at *
  have n1 := heap_alloc_new W1 (.cells #[.int .i64 0, .int .i64 0, .int .i64 0, .int .i64 0] 39)
  have B2 : Below W1.heap.size W1 (W1.alloc (.cells #[.int .i64 0, .int .i64 0, .int .i64 0, .int .i64 0] 39)) := (Below.refl _ _).alloc (Nat.le_refl _) _
  have s2 : (W1.alloc (.cells #[.int .i64 0, .int .i64 0, .int .i64 0, .int .i64 0] 39)).heap.size = W1.heap.size + 1 := by simp
  generalize W1.alloc (.cells #[.int .i64 0, .int .i64 0, .int .i64 0, .int .i64 0] 39) = W2 at *
  have n2 := heap_alloc_new W2 (.cells #[.int .i64 0, .int .i64 0, .int .i64 0, .int .i64 0] 39)
  have B3 : Below W2.heap.size W2 (W2.alloc (.cells #[.int .i64 0, .int .i64 0, .int .i64 0, .int .i64 0] 39)) := (Below.refl _ _).alloc (Nat.le_refl _) _
  generalize W2.alloc (.cells #[.int .i64 0, .int .i64 0, .int .i64 0, .int .i64 0] 39) = W3 at *
  rw [s2, s1] at n2
  rw [s1] at n1
  exact ⟨h.next ((B1.trans (B2.mono (by omega))).trans (B3.mono (by omega))), (B3.block _ (by omega)).trans ((B2.block _ (by omega)).trans n0), (B3.block _ (by omega)).trans n1, n2, h.es.lt⟩
theorem l0 (h : TwoM w hb gb gs G R v l u m s sl x y z W) : R < W.heap.size := (Array.getElem?_eq_some_iff.1 h.b0).1
theorem l1 (h : TwoM w hb gb gs G R v l u m s sl x y z W) : R + 1 < W.heap.size := (Array.getElem?_eq_some_iff.1 h.b1).1
theorem l2 (h : TwoM w hb gb gs G R v l u m s sl x y z W) : R + 1 + 1 < W.heap.size := (Array.getElem?_eq_some_iff.1 h.b2).1
theorem next (h : TwoM w hb gb gs G R v l u m s sl x y z W) (b : Below W.heap.size W W') : TwoM w hb gb gs G R v l u m s sl x y z W' :=
  ⟨h.t.next b, (b.block _ h.l0).trans h.b0, (b.block _ h.l1).trans h.b1, (b.block _ h.l2).trans h.b2, h.sR⟩
theorem popH (h : TwoM w hb gb gs G R v l u m s sl x y z W) (ho : Off W hb v W') (ha : HeapAt W' w.heap.size hb v' l') (hq : ∀ q, v'.ownBlock = some q → v.ownBlock = some q) : TwoM w hb gb gs G R v' l' u m s sl x y z W' := by
  have h1 := h.t.hG
  have h2 := h.t.hg.ge
  have h3 := h.t.gS
  have h4 := h.sR
  have k : ∀ q, R ≤ q → q ≠ hb ∧ v.ownBlock ≠ some q := fun q hq => ⟨by omega, fun e => by have := h.t.vG q e; omega⟩
  exact ⟨h.t.popH ho ha hq, (ho.block _ h.l0 (k _ (by omega)).1 (k _ (by omega)).2).trans h.b0, (ho.block _ h.l1 (k _ (by omega)).1 (k _ (by omega)).2).trans h.b1, (ho.block _ h.l2 (k _ (by omega)).1 (k _ (by omega)).2).trans h.b2, h.sR⟩
theorem popG (h : TwoM w hb gb gs G R v l u m s sl x y z W) (ho : Off W gb u W') (ha : HeapAt W' G gb u' m') (hq : ∀ q, u'.ownBlock = some q → u.ownBlock = some q) : TwoM w hb gb gs G R v l u' m' s sl x y z W' := by
  have h1 := h.t.hG
  have h2 := h.t.hg.ge
  have h3 := h.t.gS
  have h4 := h.sR
  have k : ∀ q, R ≤ q → q ≠ gb ∧ u.ownBlock ≠ some q := fun q hq => ⟨by omega, fun e => by have := h.t.uS q e; omega⟩
  exact ⟨h.t.popG ho ha hq, (ho.block _ h.l0 (k _ (by omega)).1 (k _ (by omega)).2).trans h.b0, (ho.block _ h.l1 (k _ (by omega)).1 (k _ (by omega)).2).trans h.b1, (ho.block _ h.l2 (k _ (by omega)).1 (k _ (by omega)).2).trans h.b2, h.sR⟩
theorem store0 (h : TwoM w hb gb gs G R v l u m s sl x y z W) (n : En) : TwoM w hb gb gs G R v l u m s sl n y z ((((W.setCell ⟨R, 0, none⟩ (.int .i64 n.b)).setCell ⟨R, 1, none⟩ (.int .i64 n.d)).setCell ⟨R, 2, none⟩ (.int .i64 n.s)).setCell ⟨R, 3, none⟩ (.int .i64 n.i)) := by
  have hs := h.sR
  have o4 := only4 (b := R) (v0 := .int .i64 n.b) (v1 := .int .i64 n.d) (v2 := .int .i64 n.s) (v3 := .int .i64 n.i) (w := W)
  exact ⟨h.t.under (below_set4 (Below.refl _ _) (by omega) _ _ _ _), set4 h.b0, (o4.block _ (by omega)).trans h.b1, (o4.block _ (by omega)).trans h.b2, h.sR⟩
theorem store1 (h : TwoM w hb gb gs G R v l u m s sl x y z W) (n : En) : TwoM w hb gb gs G R v l u m s sl x n z ((((W.setCell ⟨R + 1, 0, none⟩ (.int .i64 n.b)).setCell ⟨R + 1, 1, none⟩ (.int .i64 n.d)).setCell ⟨R + 1, 2, none⟩ (.int .i64 n.s)).setCell ⟨R + 1, 3, none⟩ (.int .i64 n.i)) := by
  have hs := h.sR
  have o4 := only4 (b := R + 1) (v0 := .int .i64 n.b) (v1 := .int .i64 n.d) (v2 := .int .i64 n.s) (v3 := .int .i64 n.i) (w := W)
  exact ⟨h.t.under (below_set4 (Below.refl _ _) (by omega) _ _ _ _), (o4.block _ (by omega)).trans h.b0, set4 h.b1, (o4.block _ (by omega)).trans h.b2, h.sR⟩
theorem store2 (h : TwoM w hb gb gs G R v l u m s sl x y z W) (n : En) : TwoM w hb gb gs G R v l u m s sl x y n ((((W.setCell ⟨R + 1 + 1, 0, none⟩ (.int .i64 n.b)).setCell ⟨R + 1 + 1, 1, none⟩ (.int .i64 n.d)).setCell ⟨R + 1 + 1, 2, none⟩ (.int .i64 n.s)).setCell ⟨R + 1 + 1, 3, none⟩ (.int .i64 n.i)) := by
  have hs := h.sR
  have o4 := only4 (b := R + 1 + 1) (v0 := .int .i64 n.b) (v1 := .int .i64 n.d) (v2 := .int .i64 n.s) (v3 := .int .i64 n.i) (w := W)
  exact ⟨h.t.under (below_set4 (Below.refl _ _) (by omega) _ _ _ _), (o4.block _ (by omega)).trans h.b0, (o4.block _ (by omega)).trans h.b1, set4 h.b2, h.sR⟩
end TwoM
theorem EntL.form {w : World} {g : Nat} {v : Value} {l : List En} (h : EntL w g v l) (h0 : 0 < l.length) : ∃ off c, v = .slice (some ⟨g, off, none⟩) l.length c ∧ l.length ≤ c := by
  obtain ⟨p, c, h1, h2, h3⟩ := h.at_
  obtain ⟨off, rfl, q⟩ := h3 h0
  exact ⟨off, c, h1, h2⟩
theorem EntL.front {w : World} {g off n c : Nat} {l : List En} {x : En} (h : EntL w g (.slice (some ⟨g, off, none⟩) n c) (l ++ [x])) : (w.cell? ⟨g, off + l.length * 4, none⟩ = some (.int .i64 x.b) ∧ w.cell? ⟨g, off + l.length * 4 + 1, none⟩ = some (.int .i64 x.d) ∧ w.cell? ⟨g, off + l.length * 4 + 2, none⟩ = some (.int .i64 x.s) ∧ w.cell? ⟨g, off + l.length * 4 + 3, none⟩ = some (.int .i64 x.i)) ∧ EntL w g (.slice (some ⟨g, off, none⟩) l.length c) l := by
  obtain ⟨p, c', h1, h2, h3⟩ := h.at_
  obtain ⟨off', rfl, q⟩ := h3 (by simp)
  simp at h1 h2
  obtain ⟨rfl, rfl, rfl⟩ := h1
  refine ⟨?_, ⟨h.lt, _, _, rfl, by omega, fun _ => ⟨off, rfl, fun i hi => ?_⟩⟩⟩
  · have := q l.length (by simp)
    rw [nth_append_last] at this
    exact this
  · have := q i (by simp; omega)
    rw [nth_append_left hi] at this
    exact this
theorem EntL.back {w : World} {g off n c : Nat} {l : List En} {x : En} (h : EntL w g (.slice (some ⟨g, off, none⟩) n c) (x :: l)) : (w.cell? ⟨g, off, none⟩ = some (.int .i64 x.b) ∧ w.cell? ⟨g, off + 1, none⟩ = some (.int .i64 x.d) ∧ w.cell? ⟨g, off + 2, none⟩ = some (.int .i64 x.s) ∧ w.cell? ⟨g, off + 3, none⟩ = some (.int .i64 x.i)) ∧ EntL w g (.slice (if c = 1 then some ⟨g, off, none⟩ else some ⟨g, off + 4, none⟩) l.length (c - 1)) l := by
  obtain ⟨p, c', h1, h2, h3⟩ := h.at_
  obtain ⟨off', rfl, q⟩ := h3 (by simp)
  simp at h1 h2
  obtain ⟨rfl, rfl, rfl⟩ := h1
  refine ⟨?_, ⟨h.lt, _, _, rfl, by omega, fun h0 => ⟨off + 4, by rw [if_neg (by omega)], fun i hi => ?_⟩⟩⟩
  · have := q 0 (by simp)
    rw [Nat.zero_mul, Nat.add_zero] at this
    exact this
  · have := q (i + 1) (by simp; omega)
    rw [show off + (i + 1) * 4 = off + 4 + i * 4 by omega] at this
    exact this
/-- The memory in a region that stores x into the variable Q: before and after. -/
structure MZ (W : World) (Q : Nat) (x : En) (s : Bool) (wr : World) : Prop where
  mk ::
  a : s = false → wr.heap[Q]? = some (.cells #[.int .i64 0, .int .i64 0, .int .i64 0, .int .i64 0] 39 (0, 0))
  b : s = true → wr.heap[Q]? = some (.cells #[.int .i64 x.b, .int .i64 x.d, .int .i64 x.s, .int .i64 x.i] 39 (0, 0))
  be : Below Q W wr
theorem MZ.store {W wr : World} {Q : Nat} {x : En} {s : Bool} (h : MZ W Q x s wr) (hs : s = false) : MZ W Q x true ((((wr.setCell ⟨Q, 0, none⟩ (.int .i64 x.b)).setCell ⟨Q, 1, none⟩ (.int .i64 x.d)).setCell ⟨Q, 2, none⟩ (.int .i64 x.s)).setCell ⟨Q, 3, none⟩ (.int .i64 x.i)) :=
  ⟨(fun hh => by cases hh), fun _ => set4 (h.a hs), below_set4 h.be (Nat.le_refl _) _ _ _ _⟩
theorem TwoM.told {w W W' : World} {hb gb gs G R : Nat} {v u s : Value} {l m sl : List En} {x y z n : En} (h : TwoM w hb gb gs G R v l u m s sl x y z W) (k : MZ W (R + 1 + 1) n true W') : TwoM w hb gb gs G R v l u m s sl x y n W' := by
  have hs := h.sR
  exact ⟨h.t.under (k.be.mono (by omega)), (k.be.block _ (by omega)).trans h.b0, (k.be.block _ (by omega)).trans h.b1, k.b rfl, h.sR⟩
/-- A slot that the operations rs read and the operation d writes, behind them all. -/
structure Late (old : Value) (e : Nat → Bool) (t : Value) (d : Nat) (rs : List Nat) : Prop where
  mk ::
  a : e d = false → t = old
  b : e d = true → ∀ r ∈ rs, e r = true
theorem Late.start (old : Value) (d : Nat) (rs : List Nat) : Late old (fun _ => false) old d rs := ⟨fun _ => rfl, (fun h => by cases h)⟩
theorem Late.mark {old t : Value} {e : Nat → Bool} {d i : Nat} {rs : List Nat} (h : Late old e t d rs) (hi : d ≠ i) : Late old (upd e i true) t d rs := by
  refine ⟨fun k => h.a (by rw [upd_ne _ _ hi] at k; exact k), fun k r hr => ?_⟩
  rw [upd_ne _ _ hi] at k
  by_cases hri : r = i
  · rw [hri, upd_at]
  · rw [upd_ne _ _ hri]; exact h.b k r hr
theorem Late.done {old t : Value} {e : Nat → Bool} {d : Nat} {rs : List Nat} (_ : Late old e t d rs) (hall : ∀ r ∈ rs, e r = true) (v : Value) : Late old (upd e d true) v d rs := by
  refine ⟨(fun k => by rw [upd_at] at k; cases k), fun _ r hr => ?_⟩
  by_cases hri : r = d
  · rw [hri, upd_at]
  · rw [upd_ne _ _ hri]; exact hall r hr
theorem Late.get {old t : Value} {e : Nat → Bool} {d : Nat} {rs : List Nat} (h : Late old e t d rs) (r : Nat) (hr : r ∈ rs) (he : e r = false) : t = old := by
  refine h.a ?_
  cases k : e d with
  | false => rfl
  | true => rw [h.b k r hr] at he; cases he
theorem own_form {w : World} {B n : Nat} {t : TypeId} {v : Value} {cs : List Value} (h : w.ownsRow B t 4 v n cs) : ∃ p c, v = .slice p n c := by
  rcases h.2 with ⟨rfl, h0⟩ | ⟨g, cap, cur, rfl, _⟩
  · exact ⟨none, 0, by rw [h0]⟩
  · exact ⟨_, _, rfl⟩
end Go.Proofs.Ytccjahlpakiadaa.I
