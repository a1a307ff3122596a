/-
  What the loops over the laws' ratios keep.
-/
import Derived.Test.YtjaabjehegcnaaaDoorRatioWalks2
import Derived.Test.YtjaabjehegcnaaaDoorSomeWalks
namespace Go.Proofs.YtjaabjehegcnaaaDoor
set_option maxRecDepth 100000
open Go.RowKit

/-- What the outer loop keeps. -/
structure Out (w : World) (g : Nat) (l : List (Int × Int)) (c d : Int) (wr : World) : Prop where
  mk ::
  L : RList wr g l
  Y : RBox (w.heap.size + 1) c d wr
  ok : LibOk wr
  B : Below w.heap.size w wr
theorem Out.next {w wr w' : World} {g : Nat} {l : List (Int × Int)} {c d : Int} (h : Out w g l c d wr) (hb : Below wr.heap.size wr w') : Out w g l c d w' :=
  ⟨h.L.below hb, h.Y.next hb, h.ok.below hb, on h.B hb⟩
/-- What the inner loop keeps: the outer one's, the ratio, the other list. -/
structure Inn (w : World) (g : Nat) (l : List (Int × Int)) (c d : Int) (n : Nat) (p q : Int) (g2 : Nat) (l2 : List (Int × Int)) (wr : World) : Prop where
  mk ::
  O : Out w g l c d wr
  A : RBox n p q wr
  M : RList wr g2 l2
theorem Inn.next {w wr w' : World} {g n g2 : Nat} {l l2 : List (Int × Int)} {c d p q : Int} (h : Inn w g l c d n p q g2 l2 wr) (hb : Below wr.heap.size wr w') : Inn w g l c d n p q g2 l2 w' :=
  ⟨h.O.next hb, h.A.next hb, h.M.below hb⟩
theorem RBox.drew1 {n : Nat} {p q : Int} {w : World} (h : RBox n p q w) : RBox n p q w.drew := h.next (Below.refl _ _).drew
theorem drew_below (w : World) : Below w.heap.size w w.drew := (Below.refl _ _).drew
theorem one_cells {n : Nat} {p q : Int} {w : World} (h1 : RBox n p q w) : w.cell? ⟨n, 0, none⟩ = some (.int .i64 p) ∧ w.cell? ⟨n, 1, none⟩ = some (.int .i64 q) := ⟨h1.c0, h1.c1⟩
theorem two_cells {n m : Nat} {p q r s : Int} {w : World} (h1 : RBox n p q w) (h2 : RBox m r s w) : w.cell? ⟨n, 0, none⟩ = some (.int .i64 p) ∧ w.cell? ⟨n, 1, none⟩ = some (.int .i64 q) ∧ w.cell? ⟨m, 0, none⟩ = some (.int .i64 r) ∧ w.cell? ⟨m, 1, none⟩ = some (.int .i64 s) := ⟨h1.c0, h1.c1, h2.c0, h2.c1⟩
end Go.Proofs.YtjaabjehegcnaaaDoor
