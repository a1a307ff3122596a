/-
  A variable of four cells that is made and stored into; an entry in a block that is known whole.
-/
import Derived.Test.YtiighhcilgjebaaKeyWalks
import Derived.Test.YtiighhcilgjebaaRegionKit
namespace Go.Proofs.Ytiighhcilgjebaa
set_option maxRecDepth 100000
open Go.RowKit

section
variable {b : Nat} {v0 v1 v2 v3 a0 a1 a2 a3 : Value} {w : World} {t : TypeId} {f : Nat × Nat}
theorem only4 : Stage.Only b w ((((w.setCell ⟨b, 0, none⟩ v0).setCell ⟨b, 1, none⟩ v1).setCell ⟨b, 2, none⟩ v2).setCell ⟨b, 3, none⟩ v3) :=
  only_trans (only_trans (only_trans only_set only_set) only_set) only_set
theorem set4 (h : w.heap[b]? = some (.cells #[a0, a1, a2, a3] t f)) : ((((w.setCell ⟨b, 0, none⟩ v0).setCell ⟨b, 1, none⟩ v1).setCell ⟨b, 2, none⟩ v2).setCell ⟨b, 3, none⟩ v3).heap[b]? = some (.cells #[v0, v1, v2, v3] t f) :=
  set_block (set_block (set_block (set_block h)))
theorem cell_of {c : Array Value} (h : w.heap[b]? = some (.cells c t f)) (o : Nat) : w.cell? ⟨b, o, none⟩ = c[o]? := by
  unfold World.cell?
  simp only [h]
  rfl
theorem frozen_of {c : Array Value} (h : w.heap[b]? = some (.cells c t (0, 0))) (o : Nat) : w.frozen? ⟨b, o, none⟩ = false := by
  unfold World.frozen?
  simp only [h]
  simp
theorem cells4 (h : w.heap[b]? = some (.cells #[a0, a1, a2, a3] t (0, 0))) : w.cell? ⟨b, 0, none⟩ = some a0 ∧ w.cell? ⟨b, 1, none⟩ = some a1 ∧ w.cell? ⟨b, 2, none⟩ = some a2 ∧ w.cell? ⟨b, 3, none⟩ = some a3 ∧ w.frozen? ⟨b, 0, none⟩ = false ∧ w.frozen? ⟨b, 1, none⟩ = false ∧ w.frozen? ⟨b, 2, none⟩ = false ∧ w.frozen? ⟨b, 3, none⟩ = false ∧ b < w.heap.size :=
  ⟨cell_of h 0, cell_of h 1, cell_of h 2, cell_of h 3, frozen_of h 0, frozen_of h 1, frozen_of h 2, frozen_of h 3, (Array.getElem?_eq_some_iff.1 h).1⟩
theorem ebox_of {x : En} (h : w.heap[b]? = some (.cells #[.int .i64 x.b, .int .i64 x.d, .int .i64 x.s, .int .i64 x.i] t f)) : EBox b x w :=
  ⟨cell_of h 0, cell_of h 1, cell_of h 2, cell_of h 3, (Array.getElem?_eq_some_iff.1 h).1⟩
end
/-- Entries that came in, each boxed. -/
theorem ebox2 (w : World) (x y : En) (t : TypeId) : EBox w.heap.size x ((w.alloc (.cells #[.int .i64 x.b, .int .i64 x.d, .int .i64 x.s, .int .i64 x.i] t)).alloc (.cells #[.int .i64 y.b, .int .i64 y.d, .int .i64 y.s, .int .i64 y.i] t))
    ∧ EBox (w.heap.size + 1) y ((w.alloc (.cells #[.int .i64 x.b, .int .i64 x.d, .int .i64 x.s, .int .i64 x.i] t)).alloc (.cells #[.int .i64 y.b, .int .i64 y.d, .int .i64 y.s, .int .i64 y.i] t))
    ∧ More w ((w.alloc (.cells #[.int .i64 x.b, .int .i64 x.d, .int .i64 x.s, .int .i64 x.i] t)).alloc (.cells #[.int .i64 y.b, .int .i64 y.d, .int .i64 y.s, .int .i64 y.i] t)) := by
  have h1 := ebox_new w x.b x.d x.s x.i t
  have h2 := ebox_new (w.alloc (.cells #[.int .i64 x.b, .int .i64 x.d, .int .i64 x.s, .int .i64 x.i] t)) y.b y.d y.s y.i t
  rw [World.size_alloc] at h2
  exact ⟨h1.next ((More.refl _).alloc _).below, h2, ((More.refl w).alloc _).alloc _⟩
theorem ebox3 (w : World) (x y z : En) (t : TypeId) : EBox w.heap.size x (((w.alloc (.cells #[.int .i64 x.b, .int .i64 x.d, .int .i64 x.s, .int .i64 x.i] t)).alloc (.cells #[.int .i64 y.b, .int .i64 y.d, .int .i64 y.s, .int .i64 y.i] t)).alloc (.cells #[.int .i64 z.b, .int .i64 z.d, .int .i64 z.s, .int .i64 z.i] t))
    ∧ EBox (w.heap.size + 1) y (((w.alloc (.cells #[.int .i64 x.b, .int .i64 x.d, .int .i64 x.s, .int .i64 x.i] t)).alloc (.cells #[.int .i64 y.b, .int .i64 y.d, .int .i64 y.s, .int .i64 y.i] t)).alloc (.cells #[.int .i64 z.b, .int .i64 z.d, .int .i64 z.s, .int .i64 z.i] t))
    ∧ EBox (w.heap.size + 1 + 1) z (((w.alloc (.cells #[.int .i64 x.b, .int .i64 x.d, .int .i64 x.s, .int .i64 x.i] t)).alloc (.cells #[.int .i64 y.b, .int .i64 y.d, .int .i64 y.s, .int .i64 y.i] t)).alloc (.cells #[.int .i64 z.b, .int .i64 z.d, .int .i64 z.s, .int .i64 z.i] t))
    ∧ More w (((w.alloc (.cells #[.int .i64 x.b, .int .i64 x.d, .int .i64 x.s, .int .i64 x.i] t)).alloc (.cells #[.int .i64 y.b, .int .i64 y.d, .int .i64 y.s, .int .i64 y.i] t)).alloc (.cells #[.int .i64 z.b, .int .i64 z.d, .int .i64 z.s, .int .i64 z.i] t)) := by
  obtain ⟨h1, h2, h3⟩ := ebox2 w x y t
  have h4 := ebox_new ((w.alloc (.cells #[.int .i64 x.b, .int .i64 x.d, .int .i64 x.s, .int .i64 x.i] t)).alloc (.cells #[.int .i64 y.b, .int .i64 y.d, .int .i64 y.s, .int .i64 y.i] t)) z.b z.d z.s z.i t
  rw [World.size_alloc, World.size_alloc] at h4
  exact ⟨h1.next ((More.refl _).alloc _).below, h2.next ((More.refl _).alloc _).below, h4, h3.alloc _⟩
end Go.Proofs.Ytiighhcilgjebaa
