/-
  A region that draws its order and writes memory of the call's: the values that have come up, one by one.
-/
import Derived.Test.YtaeabihogidmfaaRegionKit
namespace Go.Proofs.Ytaeabihogidmfaa
set_option maxRecDepth 100000
open Go.RowKit

/-- Which values have come up. -/
structure Vals (p : Plan) (e : Nat → Bool) (t : Nat → Value) : Prop where
  mk ::
  val : ∀ i, p.K i = 0 → e i = true → t (p.D i) = p.V i
namespace Vals
variable {p : Plan} {e : Nat → Bool} {t : Nat → Value}
theorem start (p : Plan) (t : Nat → Value) : Vals p (fun _ => false) t := ⟨fun _ _ h => by cases h⟩
theorem put (h : Vals p e t) (ok : p.ok = true) {i : Nat} (hk : p.K i = 0) : Vals p (upd e i true) (upd t (p.D i) (p.V i)) := by
  refine ⟨fun j hj he => ?_⟩
  by_cases hji : j = i
  · subst hji; rw [upd_at]
  · rw [upd_ne _ _ (p.okD ok (by omega) (by omega) hji)]
    rw [upd_ne _ _ hji] at he
    exact h.val j hj he
theorem skip (h : Vals p e t) {i : Nat} (hk : p.K i = 2) : Vals p (upd e i true) t := by
  refine ⟨fun j hj he => ?_⟩
  rw [upd_ne _ _ (by rintro rfl; omega)] at he
  exact h.val j hj he
/-- An operation whose value is not told: its slot is no other one's. -/
theorem skip' (h : Vals p e t) {i d : Nat} {v : Value} (hk : p.K i = 2) (hd : ((List.range p.ks.length).all fun j => p.K j != 0 || p.D j != d) = true) : Vals p (upd e i true) (upd t d v) := by
  refine ⟨fun j hj he => ?_⟩
  have hl := p.lt (i := j) (by omega)
  have := (List.all_eq_true.1 hd) j (List.mem_range.2 hl)
  simp [hj] at this
  rw [upd_ne _ _ (by rintro rfl; omega)] at he
  rw [upd_ne _ _ this]
  exact h.val j hj he
end Vals
end Go.Proofs.Ytaeabihogidmfaa
