/-
  The document's own numbers in variables of their own.
-/
import Derived.Test.YtjaabjehegcnaaaDoorBigWalks8
namespace Go.Proofs.YtjaabjehegcnaaaDoor
set_option maxRecDepth 100000
open Go.RowKit

/-- A number in a variable of its own that may be written. -/
structure BoxAt (n : Nat) (p : Bool) (x : Option Addr) (l k : Nat) (w : World) : Prop where
  mk ::
  c0 : w.cell? ⟨n, 0, none⟩ = some (.bool p)
  c1 : w.cell? ⟨n, 1, none⟩ = some (.slice x l k)
  f0 : w.frozen? ⟨n, 0, none⟩ = false
  f1 : w.frozen? ⟨n, 1, none⟩ = false
  size : n < w.heap.size
theorem BoxAt.next {n : Nat} {p : Bool} {x : Option Addr} {l k : Nat} {w w' : World} (h : BoxAt n p x l k w) (hb : Below w.heap.size w w') : BoxAt n p x l k w' :=
  ⟨by rw [hb.cell (by exact h.size)]; exact h.c0, by rw [hb.cell (by exact h.size)]; exact h.c1, by rw [hb.frozen (by exact h.size)]; exact h.f0, by rw [hb.frozen (by exact h.size)]; exact h.f1, Nat.lt_of_lt_of_le h.size hb.size⟩
theorem BoxAt.store {n : Nat} {p p' : Bool} {x x' : Option Addr} {l l' k k' : Nat} {w : World} (h : BoxAt n p x l k w) : BoxAt n p' x' l' k' ((w.setCell ⟨n, 0, none⟩ (.bool p')).setCell ⟨n, 1, none⟩ (.slice x' l' k')) := by
  obtain ⟨c0, c1, f0, f1, hs⟩ := h
  exact ⟨by simp [go_sem, c0], by simp [go_sem, c1], by simpa [go_sem] using f0, by simpa [go_sem] using f1, by simpa [World.setCell] using hs⟩
theorem box_new (w : World) (p : Bool) (x : Option Addr) (l k : Nat) : BoxAt w.heap.size p x l k (w.alloc (.cells #[.bool p, .slice x l k] 59)) :=
  ⟨by simp [go_sem], by simp [go_sem], by simp [go_sem], by simp [go_sem], by simp⟩
theorem Rep.store {w : World} {v : Value} {z : Int} {n : Nat} {p : Bool} (h : Rep w v z) (hc : w.cell? ⟨n, 0, none⟩ = some (.bool p)) (u u' : Value) : Rep ((w.setCell ⟨n, 0, none⟩ u).setCell ⟨n, 1, none⟩ u') v z := by
  obtain ⟨x, c, h1, h2⟩ := h
  exact ⟨x, c, h1, h2.store hc u u'⟩
theorem rep_zero (w : World) : Rep w (.agg #[.bool false, .slice none 0 0]) 0 :=
  ⟨none, 0, by simp [dig_zero], Or.inl ⟨rfl, rfl, by simp [dig_zero]⟩⟩

end Go.Proofs.YtjaabjehegcnaaaDoor
