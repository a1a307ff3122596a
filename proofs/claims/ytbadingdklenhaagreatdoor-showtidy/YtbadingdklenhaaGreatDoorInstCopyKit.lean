/-
  What Copy needs of memory (layer 9): a variable of six cells known whole; lists of lists that are being copied, one by one.
-/
import Derived.Test.YtbadingdklenhaaGreatDoorInstOwn
namespace Go.Proofs.YtbadingdklenhaaGreatDoor
set_option maxRecDepth 100000
open Go.RowKit

/-- A variable of six cells, known whole. -/
def IBlk (b : Nat) (T : TypeId) (k c i s z t : Value) (w : World) : Prop := w.heap[b]? = some (.cells #[k, c, i, s, z, t] T (0, 0))
namespace IBlk
variable {b : Nat} {T : TypeId} {k c i s z t : Value} {w w' : World}
theorem box (h : IBlk b T k c i s z t w) : IBox b k c i s z t w := by
  unfold IBlk at h
  refine ⟨?_, ?_, ?_, ?_, ?_, ?_⟩ <;> (unfold World.cell?; simp only [h]; rfl)
theorem free (h : IBlk b T k c i s z t w) (o : Nat) : w.frozen? ⟨b, o, none⟩ = false := frozen_of_row w b o _ _ h
theorem lt (h : IBlk b T k c i s z t w) : b < w.heap.size := lt_of_block h
theorem keep (h : IBlk b T k c i s z t w) (hk : w'.heap[b]? = w.heap[b]?) : IBlk b T k c i s z t w' := hk.trans h
theorem next (h : IBlk b T k c i s z t w) (hb : Below w.heap.size w w') : IBlk b T k c i s z t w' := h.keep (hb.block b h.lt)
theorem below {B : Nat} (h : IBlk b T k c i s z t w) (hb : Below B w w') (hlt : b < B) : IBlk b T k c i s z t w' := h.keep (hb.block b hlt)
theorem set2 (h : IBlk b T k c i s z t w) (v : Value) : IBlk b T k c v s z t (w.setCell ⟨b, 2, none⟩ v) := heap_setCell_same w b 2 _ _ v h
theorem set3 (h : IBlk b T k c i s z t w) (v : Value) : IBlk b T k c i v z t (w.setCell ⟨b, 3, none⟩ v) := heap_setCell_same w b 3 _ _ v h
theorem set5 (h : IBlk b T k c i s z t w) (v : Value) : IBlk b T k c i s z v (w.setCell ⟨b, 5, none⟩ v) := heap_setCell_same w b 5 _ _ v h
theorem other (h : IBlk b T k c i s z t w) {a : Addr} (ha : b ≠ a.block) (v : Value) : IBlk b T k c i s z t (w.setCell a v) := h.keep (Below.heap_setCell w a v b ha)
end IBlk
theorem iblk_new (w : World) (k c i s z t : Value) (T : TypeId) : IBlk w.heap.size T k c i s z t (w.alloc (.cells #[k, c, i, s, z, t] T)) := heap_alloc_new _ _

theorem Lies.bound {F : Nat → Prop} {w : World} {u : Value} {n : Nat} {cs : List Value} (h : Lies F w u n cs) : Lies (fun q => q < w.heap.size) w u n cs := by
  obtain ⟨A, C, h1, h2, h3, h4⟩ := h
  refine ⟨A, C, h1, h2, h3, fun h0 => ?_⟩
  obtain ⟨b, off, h5, h6, h7, h8⟩ := h4 h0
  exact ⟨b, off, h5, h7, h7, h8⟩
/-- In a later world. -/
theorem Lies.later {F : Nat → Prop} {w w' : World} {u : Value} {n : Nat} {cs : List Value} (h : Lies F w u n cs) (hb : Below w.heap.size w w') : Lies (fun q => q < w.heap.size) w' u n cs := h.bound.held (Below.heldB hb (fun _ hq => hq))
theorem own_next {w w' : World} {B size n : Nat} {t : TypeId} {v : Value} {cs : List Value} (h : w.ownsRow B t size v n cs) (hb : Below w.heap.size w w') : w'.ownsRow B t size v n cs := by
  refine h.kept (row := none) ⟨hb.os, hb.tape, hb.output, hb.size, fun k hk _ => hb.block k hk⟩ ?_
  cases v.ownBlock with
  | none => exact .inl rfl
  | some q => exact .inr (by simp)
theorem own_below {w w' : World} {B size n M : Nat} {t : TypeId} {v : Value} {cs : List Value} (h : w.ownsRow B t size v n cs) (hM : ∀ q, v.ownBlock = some q → q < M) (hb : Below M w w') : w'.ownsRow B t size v n cs := by
  have hs := h.lt
  obtain ⟨h1, h2⟩ := h
  refine ⟨h1, ?_⟩
  rcases h2 with h2 | ⟨g, cap, cur, hv, hg, hh, r⟩
  · exact .inl h2
  · exact .inr ⟨g, cap, cur, hv, hg, (hb.block g (hM g (by rw [hv]; rfl))).trans hh, r⟩

/-- The rows of a square that are being copied: the first k have lists of their own, from m2 on. -/
structure RowsTo (m1 m2 : Nat) (R : List (List Int)) (old : List Value) (vc : Value) (k : Nat) (hs : List Value) (w : World) : Prop where
  mk ::
  outer : w.ownsRow m1 68 1 vc R.length hs
  lt : ∀ q, vc.ownBlock = some q → q < m2
  new : ∀ (i : Nat) (r : List Int) (v : Value), i < k → R[i]? = some r → hs[i]? = some v → w.ownsRow m2 2 1 v r.length (nl r)
  old : ∀ i, k ≤ i → hs[i]? = old[i]?
namespace RowsTo
variable {m1 m2 k : Nat} {R : List (List Int)} {old hs : List Value} {vc : Value} {w w' : World}
theorem len (h : RowsTo m1 m2 R old vc k hs w) : hs.length = R.length := by have := h.outer.1; omega
theorem next (h : RowsTo m1 m2 R old vc k hs w) (hb : Below w.heap.size w w') : RowsTo m1 m2 R old vc k hs w' :=
  ⟨own_next h.outer hb, h.lt, fun i r v a b c => own_next (h.new i r v a b c) hb, h.old⟩
theorem step {g C n : Nat} {r : List Int} {v : Value} (h : RowsTo m1 m2 R old (.slice (some ⟨g, 0, none⟩) n C) k hs w) (hr : R[k]? = some r) (hm : m2 ≤ w.heap.size) (hb : Below w.heap.size w w') (hv : w'.ownsRow w.heap.size 2 1 v r.length (nl r)) :
    RowsTo m1 m2 R old (.slice (some ⟨g, 0, none⟩) n C) (k + 1) (hs.set k v) (w'.setCell ⟨g, k, none⟩ v) := by
  have hn : n = R.length := by
    rcases h.outer.2 with ⟨e, _⟩ | ⟨_, _, _, e, _⟩
    · cases e
    · simp only [Value.slice.injEq] at e; exact e.2.1
  subst hn
  have hg := h.lt g rfl
  have hkl : k < R.length := (List.getElem?_eq_some_iff.1 hr).1
  refine ⟨((h.next hb).outer.stored k v).1, h.lt, fun i r' v' hi hr' hv' => ?_, fun i hi => ?_⟩
  · by_cases hik : i = k
    · subst hik
      rw [hr] at hr'
      obtain rfl : r = r' := by simpa using hr'
      have e : v = v' := by
        rw [List.getElem?_set_self (by rw [h.len]; exact hkl)] at hv'
        simpa using hv'
      subst e
      exact ownsRow_setCell_below (hv.mono hm) (by exact hg) v
    · rw [List.getElem?_set_ne (Ne.symm hik)] at hv'
      exact ownsRow_setCell_below (own_next (h.new i r' v' (by omega) hr' hv') hb) (by exact hg) v
  · rw [List.getElem?_set_ne (by omega)]
    exact h.old i (by omega)
end RowsTo
/-- The sets of a cover that are being copied. -/
structure SetsTo (m3 m4 : Nat) (S : List (Int × List Int)) (old : List Value) (vs : Value) (k : Nat) (hs : List Value) (w : World) : Prop where
  mk ::
  outer : w.ownsRow m3 71 2 vs S.length (flS S hs)
  len : hs.length = S.length
  lt : ∀ q, vs.ownBlock = some q → q < m4
  new : ∀ (i : Nat) (s : Int × List Int) (v : Value), i < k → S[i]? = some s → hs[i]? = some v → w.ownsRow m4 3 1 v s.2.length (nl s.2)
  old : ∀ i, k ≤ i → hs[i]? = old[i]?
theorem flS_set : ∀ {l : List (Int × List Int)} {us : List Value} {k : Nat} {v : Value}, us.length = l.length → k < l.length → flS l (us.set k v) = (flS l us).set (k * 2 + 1) v
  | [], _, k, _, _, hk => by simp at hk
  | x :: l, [], k, _, hl, _ => by simp at hl
  | x :: l, u :: us, 0, v, _, _ => rfl
  | x :: l, u :: us, k + 1, v, hl, hk => by
    have ih := flS_set (l := l) (us := us) (k := k) (v := v) (by simpa using hl) (by simpa using hk)
    show [.int .i64 x.1, u] ++ flS l (us.set k v) = ([.int .i64 x.1, u] ++ flS l us).set ((k + 1) * 2 + 1) v
    rw [ih, show (k + 1) * 2 + 1 = k * 2 + 1 + 2 by omega]
    rfl
namespace SetsTo
variable {m3 m4 k : Nat} {S : List (Int × List Int)} {old hs : List Value} {vs : Value} {w w' : World}
theorem next (h : SetsTo m3 m4 S old vs k hs w) (hb : Below w.heap.size w w') : SetsTo m3 m4 S old vs k hs w' :=
  ⟨own_next h.outer hb, h.len, h.lt, fun i r v a b c => own_next (h.new i r v a b c) hb, h.old⟩
theorem step {g C n : Nat} {s : Int × List Int} {v : Value} (h : SetsTo m3 m4 S old (.slice (some ⟨g, 0, none⟩) n C) k hs w) (hs' : S[k]? = some s) (hm : m4 ≤ w.heap.size) (hb : Below w.heap.size w w') (hv : w'.ownsRow w.heap.size 3 1 v s.2.length (nl s.2)) :
    SetsTo m3 m4 S old (.slice (some ⟨g, 0, none⟩) n C) (k + 1) (hs.set k v) (w'.setCell ⟨g, k * 2 + 1, none⟩ v) := by
  have hn : n = S.length := by
    rcases h.outer.2 with ⟨e, _⟩ | ⟨_, _, _, e, _⟩
    · cases e
    · simp only [Value.slice.injEq] at e; exact e.2.1
  subst hn
  have hg := h.lt g rfl
  have hkl : k < S.length := (List.getElem?_eq_some_iff.1 hs').1
  refine ⟨by rw [flS_set h.len hkl]; exact ((h.next hb).outer.stored (k * 2 + 1) v).1, by simpa using h.len, h.lt, fun i r' v' hi hr' hv' => ?_, fun i hi => ?_⟩
  · by_cases hik : i = k
    · subst hik
      rw [hs'] at hr'
      obtain rfl : s = r' := by simpa using hr'
      have e : v = v' := by
        rw [List.getElem?_set_self (by rw [h.len]; exact hkl)] at hv'
        simpa using hv'
      subst e
      exact ownsRow_setCell_below (hv.mono hm) (by exact hg) v
    · rw [List.getElem?_set_ne (Ne.symm hik)] at hv'
      exact ownsRow_setCell_below (own_next (h.new i r' v' (by omega) hr' hv') hb) (by exact hg) v
  · rw [List.getElem?_set_ne (by omega)]
    exact h.old i (by omega)
end SetsTo
/-- An instance in lists of its own, each kind of them in an interval of blocks: items in [lo, m1), the square in [m1, m2), its rows in [m2, m3), the sets in [m3, m4), their elements from m4 on. -/
structure OwnC (lo m1 m2 m3 m4 : Nat) (w : World) (vi vc vs : Value) (I : In) (uc us : List Value) : Prop where
  mk ::
  items : w.ownsRow lo 70 2 vi I.items.length (fl2 I.items)
  itemsLt : ∀ q, vi.ownBlock = some q → q < m1
  cost : RowsTo m1 m2 I.cost uc vc I.cost.length uc w
  rowsLt : ∀ (i : Nat) v, uc[i]? = some v → ∀ q, v.ownBlock = some q → q < m3
  sets : SetsTo m3 m4 I.sets us vs I.sets.length us w
  le1 : lo ≤ m1
  le2 : m1 ≤ m2
  le3 : m2 ≤ m3
  le4 : m3 ≤ m4
/-- A store below all of it. -/
theorem OwnC.low {lo m1 m2 m3 m4 : Nat} {w : World} {vi vc vs : Value} {I : In} {uc us : List Value} (h : OwnC lo m1 m2 m3 m4 w vi vc vs I uc us) {a : Addr} (ha : a.block < lo) (v : Value) : OwnC lo m1 m2 m3 m4 (w.setCell a v) vi vc vs I uc us :=
  ⟨ownsRow_setCell_below h.items ha v, h.itemsLt, ⟨ownsRow_setCell_below h.cost.outer (Nat.lt_of_lt_of_le ha h.le1) v, h.cost.lt, fun i r u a b c => ownsRow_setCell_below (h.cost.new i r u a b c) (Nat.lt_of_lt_of_le ha (Nat.le_trans h.le1 h.le2)) v, h.cost.old⟩, h.rowsLt,
    ⟨ownsRow_setCell_below h.sets.outer (Nat.lt_of_lt_of_le ha (Nat.le_trans h.le1 (Nat.le_trans h.le2 h.le3))) v, h.sets.len, h.sets.lt, fun i r u a b c => ownsRow_setCell_below (h.sets.new i r u a b c) (Nat.lt_of_lt_of_le ha (Nat.le_trans h.le1 (Nat.le_trans h.le2 (Nat.le_trans h.le3 h.le4)))) v, h.sets.old⟩, h.le1, h.le2, h.le3, h.le4⟩
theorem OwnC.mono {lo lo' m1 m2 m3 m4 : Nat} {w : World} {vi vc vs : Value} {I : In} {uc us : List Value} (h : OwnC lo m1 m2 m3 m4 w vi vc vs I uc us) (hl : lo' ≤ lo) : OwnC lo' m1 m2 m3 m4 w vi vc vs I uc us :=
  ⟨h.items.mono hl, h.itemsLt, h.cost, h.rowsLt, h.sets, Nat.le_trans hl h.le1, h.le2, h.le3, h.le4⟩
theorem ints_of_own {w : World} {B n : Nat} {t : TypeId} {v : Value} {l : List Int} {F : Nat → Prop} (h : w.ownsRow B t 1 v n (nl l)) (hn : n = l.length) (hF : ∀ q, B ≤ q → F q) : Ints F w v l := by
  subst hn
  exact (lies_of_own h).imp fun q hq => hF q (h.lt q hq).1
/-- It reads as what it is. -/
theorem OwnC.ins {lo m1 m2 m3 m4 : Nat} {w : World} {vi vc vs : Value} {I : In} {uc us : List Value} (h : OwnC lo m1 m2 m3 m4 w vi vc vs I uc us) : Ins (fun q => lo ≤ q) (fun q => lo ≤ q) w (inV I vi vc vs) I := by
  have l1 := h.le1
  have l2 := h.le2
  have l3 := h.le3
  have l4 := h.le4
  refine ⟨⟨vi, vc, vs, uc, us, rfl, (lies_of_own h.items).imp fun q hq => (h.items.lt q hq).1, ⟨h.cost.len, (lies_of_own h.cost.outer).imp fun q hq => by have := (h.cost.outer.lt q hq).1; omega, fun i r v hr hv => ?_⟩, ⟨h.sets.len, (lies_of_own h.sets.outer).imp fun q hq => by have := (h.sets.outer.lt q hq).1; omega, fun i s v hs hv => ?_⟩⟩⟩
  · exact ints_of_own (h.cost.new i r v (List.getElem?_eq_some_iff.1 hr).1 hr hv) rfl (fun q hq => by omega)
  · exact ints_of_own (h.sets.new i s v (List.getElem?_eq_some_iff.1 hs).1 hs hv) rfl (fun q hq => by omega)
end Go.Proofs.YtbadingdklenhaaGreatDoor
