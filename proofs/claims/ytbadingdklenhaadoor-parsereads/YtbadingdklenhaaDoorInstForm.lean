/-
  What package inst's isFormed and isHollow do (layer 9).
-/
import Derived.Test.YtbadingdklenhaaDoorInstWalks
namespace Go.Proofs.YtbadingdklenhaaDoor
set_option maxRecDepth 100000
open Go.RowKit

theorem all_drop {α : Type} {p : α → Bool} {l : List α} {k : Nat} {x : α} (h : l[k]? = some x) : (l.drop k).all p = (p x && (l.drop (k + 1)).all p) := by
  obtain ⟨hk, hx⟩ := List.getElem?_eq_some_iff.1 h
  rw [List.drop_eq_getElem_cons hk, hx]
  rfl
theorem all_done {α : Type} {p : α → Bool} {l : List α} : (l.drop l.length).all p = true := by rw [List.drop_eq_nil_of_le (Nat.le_refl _)]; rfl
theorem hol_drop {l : List (List Int)} {k : Nat} {r : List Int} (h : l[k]? = some r) : hol k (l.drop k) = (decide (r.getD k 0 = 0) && hol (k + 1) (l.drop (k + 1))) := by
  obtain ⟨hk, hx⟩ := List.getElem?_eq_some_iff.1 h
  rw [List.drop_eq_getElem_cons hk, hx]
  rfl

end Go.Proofs.YtbadingdklenhaaDoor
