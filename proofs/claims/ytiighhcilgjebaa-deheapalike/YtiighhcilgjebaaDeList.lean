/-
  The first entries of a slice that came in (layer 7), as a list.
-/
import Derived.Test.YtiighhcilgjebaaHeapFrame2
import Derived.Test.YtiighhcilgjebaaDeCutMath
namespace Go.Proofs.Ytiighhcilgjebaa
set_option maxRecDepth 100000
open Go.RowKit Go.Sort

/-- The first k of them. -/
def ls (z : Nat → En) (k : Nat) : List En := (List.range k).map z
theorem ls_length (z : Nat → En) (k : Nat) : (ls z k).length = k := by simp [ls]
theorem ls_succ (z : Nat → En) (k : Nat) : ls z (k + 1) = ls z k ++ [z k] := by simp [ls, List.range_succ]
theorem nth_ls {z : Nat → En} {k i : Nat} (h : i < k) : nth (ls z k) i = z i := by
  rw [nth_get (by rw [ls_length]; exact h)]
  simp [ls]
theorem ls_zero (z : Nat → En) : ls z 0 = [] := rfl
end Go.Proofs.Ytiighhcilgjebaa
