/-
  A region that draws its order, by what holds at every stage of it: one proof for each operation, not one for each order.
-/
import Derived.Test.YtooehfjappckmaaDoorPairKit
namespace Go.Proofs.YtooehfjappckmaaDoor
set_option maxRecDepth 100000
open Go.RowKit

section
variable {P : Program} {ops : Array Oper} {Q : Exit → Act → World → Prop} {md : Region.Mode}

/-- How many operations have not come up. -/
def unl (l : Array Bool) : Nat := l.toList.count false
theorem count_set : ∀ (l : List Bool) (i : Nat), l[i]? = some false → (l.set i true).count false + 1 = l.count false
  | [], i, h => by simp at h
  | b :: r, 0, h => by simp at h; subst h; simp
  | b :: r, i + 1, h => by
    have := count_set r i (by simpa using h)
    cases b <;> simp <;> omega
theorem unl_set {l : Array Bool} {i : Nat} (h : l.getD i true = false) : unl (l.setIfInBounds i true) + 1 = unl l := by
  unfold unl
  rw [Array.toList_setIfInBounds]
  refine count_set _ _ ?_
  rcases Nat.lt_or_ge i l.size with h' | h'
  · rw [Array.getD_eq_getD_getElem?, Array.getElem?_eq_getElem h'] at h
    rw [Array.getElem?_toList, Array.getElem?_eq_getElem h']
    simpa using h
  · rw [Array.getD_eq_getD_getElem?, Array.getElem?_eq_none h'] at h; simp at h

theorem wpAny_inv {Inv : Array Bool → Act → World → Prop}
    (hstep : ∀ l a w, Inv l a w → ∀ i o, ops[i]? = some o → l.getD i true = false → (∀ e ∈ o.after, Region.binds md e = true → l.getD e.on false = true) → wpOp P ops Q i (Inv (l.setIfInBounds i true)) a w)
    (hdone : ∀ l a w, Inv l a w → Region.ready md ops l = [] → Q .normal a w) : ∀ (fuel : Nat) (l : Array Bool) (a : Act) (w : World), unl l ≤ fuel → Inv l a w → wpAny P md ops Q fuel l a w := by
  intro fuel
  induction fuel with
  | zero =>
    intro l a w hf hi
    have hr : Region.ready md ops l = [] := by
      refine List.eq_nil_iff_forall_not_mem.2 fun i hm => ?_
      have := unl_set (mem_ready.1 hm).1
      omega
    exact ⟨hr, hdone l a w hi hr⟩
  | succ fuel ih =>
    intro l a w hf hi
    refine ⟨hdone l a w hi, fun i hm => ?_⟩
    obtain ⟨h1, o, h2, h3⟩ := mem_ready.1 hm
    exact wpOp_mono (fun a' w' h => ih _ a' w' (by have := unl_set h1; omega) h) (hstep l a w hi i o h2 h1 h3)

theorem region_inv {Inv : Array Bool → Act → World → Prop} {id : Nat} {a : Act} {w : World} (hm : P.follows .mixedOrders = true)
    (hstep : ∀ l a w, Inv l a w → ∀ i o, ops[i]? = some o → l.getD i true = false → (∀ e ∈ o.after, Region.binds .any e = true → l.getD e.on false = true) → wpOp P ops Q i (Inv (l.setIfInBounds i true)) a w)
    (hstart : Inv (Array.replicate ops.size false) a w.drew)
    (hdone : ∀ l a w, Inv l a w → Region.ready .any ops l = [] → Q .normal a w) : (Code.region id ops true).wp P Q a w := by
  refine wp_region_any hm (wpAny_inv hstep hdone _ _ _ _ ?_ hstart)
  unfold unl
  simp

theorem ready_all {l : Array Bool} {i : Nat} {o : Oper} (h : Region.ready md ops l = []) (ho : ops[i]? = some o) (ha : ∀ e ∈ o.after, Region.binds md e = true → l.getD e.on false = true) : l.getD i true = true := by
  cases hh : l.getD i true with
  | true => rfl
  | false =>
    have := mem_ready.2 ⟨hh, o, ho, ha⟩
    rw [h] at this; cases this
end

theorem LibOk.stored {w : World} (h : LibOk w) {b : Nat} {u v : Value} (hb : 0 < b) : LibOk ((w.setCell ⟨b, 0, none⟩ u).setCell ⟨b, 1, none⟩ v) := by
  refine ⟨fun j hj => ?_, by simpa [World.setCell] using h.lt⟩
  rw [World.cell?_of_block (w := w) (heap_store w u v (by show (0 : Nat) ≠ b; omega))]
  exact h.tab j hj
/-- A variable that will hold a set: it is fresh, or holds it. -/
def BoxOf (b : Nat) (s : Bool) (n : Nat) (r : Nat → Bool) (w : World) : Prop :=
  (s = false ∧ SBox b (.int .i64 0) (.slice none 0 0) w) ∨ (s = true ∧ ∃ x k, SBox b (.int .i64 n) (.slice x (nw n) k) w ∧ SetAt w n r x k)
theorem BoxOf.next {b n : Nat} {s : Bool} {r : Nat → Bool} {w w' : World} (h : BoxOf b s n r w) (hb : Below w.heap.size w w') : BoxOf b s n r w' := by
  rcases h with ⟨h1, h2⟩ | ⟨h1, x, k, h2, h3⟩
  · exact .inl ⟨h1, h2.next hb⟩
  · exact .inr ⟨h1, x, k, h2.next hb, h3.below hb⟩
theorem BoxOf.size {b n : Nat} {s : Bool} {r : Nat → Bool} {w : World} (h : BoxOf b s n r w) : b < w.heap.size := by
  rcases h with ⟨h1, h2⟩ | ⟨h1, x, k, h2, h3⟩
  · exact h2.size
  · exact h2.size
theorem BoxOf.other {b g n : Nat} {s : Bool} {r : Nat → Bool} {w : World} {z : Int} {u v : Value} (h : BoxOf b s n r w) (hne : b ≠ g) (hc : w.cell? ⟨g, 0, none⟩ = some (.int .i64 z)) : BoxOf b s n r ((w.setCell ⟨g, 0, none⟩ u).setCell ⟨g, 1, none⟩ v) := by
  rcases h with ⟨h1, h2⟩ | ⟨h1, x, k, h2, h3⟩
  · exact .inl ⟨h1, h2.kept (heap_store _ _ _ hne)⟩
  · exact .inr ⟨h1, x, k, h2.kept (heap_store _ _ _ hne), SetAt.stored h3 hc⟩
theorem Two.stored {w wr : World} {n m : Nat} {p q : Nat → Bool} {ba bb g : Nat} {xa : Option Addr} {ca : Nat} {xb : Option Addr} {cb : Nat} {ya : Option Addr} {da : Nat} {yb : Option Addr} {db : Nat} {z : Int} {u v : Value}
    (h : Two w n m p q ba bb xa ca xb cb ya da yb db wr) (hc : wr.cell? ⟨g, 0, none⟩ = some (.int .i64 z)) (h1 : ba ≠ g) (h2 : bb ≠ g) (h3 : 0 < g) (h4 : w.heap.size ≤ g) : Two w n m p q ba bb xa ca xb cb ya da yb db ((wr.setCell ⟨g, 0, none⟩ u).setCell ⟨g, 1, none⟩ v) :=
  ⟨h.A.kept (heap_store _ _ _ h1), h.B.kept (heap_store _ _ _ h2), SetAt.stored h.SA hc, SetAt.stored h.SB hc, BoolsAt.stored h.X hc, BoolsAt.stored h.Y hc, h.ok.stored h3, store_below h.be h4 _ _⟩
theorem Two.drew {w wr : World} {n m : Nat} {p q : Nat → Bool} {ba bb : Nat} {xa : Option Addr} {ca : Nat} {xb : Option Addr} {cb : Nat} {ya : Option Addr} {da : Nat} {yb : Option Addr} {db : Nat}
    (h : Two w n m p q ba bb xa ca xb cb ya da yb db wr) : Two w n m p q ba bb xa ca xb cb ya da yb db wr.drew := h.next (Below.refl _ _).drew
end Go.Proofs.YtooehfjappckmaaDoor
