/-
  What package inst's small functions do (layer 9): Name, isAmount, rise, hasOthers, isSized; and the document's out.
-/
import Derived.Test.YtbadingdklenhaaDoorInstKit
namespace Go.Proofs.YtbadingdklenhaaDoor
set_option maxRecDepth 100000
open Go.RowKit

/-- The kinds' words. -/
def word (i : Nat) : ByteArray :=
  match i with
  | 0 => ⟨#[107, 110, 97, 112, 115, 97, 99, 107]⟩
  | 1 => ⟨#[97, 115, 115, 105, 103, 110, 109, 101, 110, 116]⟩
  | 2 => ⟨#[116, 115, 112]⟩
  | _ => ⟨#[99, 111, 118, 101, 114]⟩
def name (k : Int) : ByteArray := if k < 0 ∨ 3 < k then ⟨#[]⟩ else word k.toNat
/-- The table of words stands. -/
def WordsOk (w : World) : Prop := ∀ i, i < 4 → w.cell? ⟨0, i, none⟩ = some (.string (word i))
theorem WordsOk.next {w w' : World} (h : WordsOk w) (hb : Below w.heap.size w w') : WordsOk w' := fun i hi => by rw [hb.cell (cell_lt (h i hi))]; exact h i hi
theorem name_any (k : Int) (w : World) (hW : WordsOk w) : Calls Tryd.prog 38 #[.int .i64 k] w fun e w' => e = .returned (.string (name k)) ∧ Below w.heap.size w w' := by
  by_cases h1 : k < 0
  · rw [show name k = ⟨#[]⟩ from if_pos (.inl h1)]
    go_enter Tryd.func38, Tryd.ntmps38
    go_wp2
    go_ret
    exact ⟨rfl, Below.refl _ _⟩
  · by_cases h2 : 3 < k
    · rw [show name k = ⟨#[]⟩ from if_pos (.inr h2)]
      have h3 : ¬ k < 4 := by omega
      go_enter Tryd.func38, Tryd.ntmps38
      go_wp2
      go_ret
      exact ⟨rfl, Below.refl _ _⟩
    · obtain ⟨n, rfl⟩ : ∃ n : Nat, k = (n : Int) := ⟨k.toNat, by omega⟩
      have hn : n < 4 := by omega
      have hc := hW n hn
      rw [show name (n : Int) = word n from (if_neg (by omega)).trans (by simp)]
      generalize word n = s at hc
      have c1 : (0 : Int) ≤ (n : Int) := by omega
      have c2 : (n : Int) < 4 := by omega
      have c3 : ¬ (4 : Int) ≤ (n : Int) := by omega
      have c4 : ¬ (n : Int) < 0 := by omega
      clear h1 h2 hW
      go_enter Tryd.func38, Tryd.ntmps38
      go_wp2
      go_ret
      exact ⟨rfl, Below.refl _ _⟩
/-- An instance's three lists' lengths. -/
structure Lens (I : In) (vi vc vs : Value) : Prop where
  mk ::
  items : ∃ A C, vi = .slice A I.items.length C
  cost : ∃ A C, vc = .slice A I.cost.length C
  sets : ∃ A C, vs = .slice A I.sets.length C
end Go.Proofs.YtbadingdklenhaaDoor
