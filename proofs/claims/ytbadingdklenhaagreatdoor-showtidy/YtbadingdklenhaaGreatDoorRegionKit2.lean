/-
  A region that draws its order and writes memory of the call's: the values that have come up, one by one.
-/
import Derived.Test.YtbadingdklenhaaGreatDoorRegionKit
namespace Go.Proofs.YtbadingdklenhaaGreatDoor
set_option maxRecDepth 100000
open Go.RowKit

/-- Which values have come up. -/
structure Vals (p : Plan) (e : Nat → Bool) (t : Nat → Value) : Prop where
  mk ::
  val : ∀ i, p.K i = 0 → e i = true → t (p.D i) = p.V i
namespace Vals
variable {p : Plan} {e : Nat → Bool} {t : Nat → Value}
theorem start (p : Plan) (t : Nat → Value) : Vals p (fun _ => false) t := ⟨fun _ _ h => by cases h⟩
theorem put (h : Vals p e t) (ok : p.ok = true) {i : Nat} (hk : p.K i = 0) : Vals p (upd e i true) (upd t (p.D i) (p.V i)) := by
  refine ⟨fun j hj he => ?_⟩
  by_cases hji : j = i
  · subst hji; rw [upd_at]
  · rw [upd_ne _ _ (p.okD ok (by omega) (by omega) hji)]
    rw [upd_ne _ _ hji] at he
    exact h.val j hj he
theorem skip (h : Vals p e t) {i : Nat} (hk : p.K i = 2) : Vals p (upd e i true) t := by
  refine ⟨fun j hj he => ?_⟩
  rw [upd_ne _ _ (by rintro rfl; omega)] at he
  exact h.val j hj he
/-- An operation whose value is not told: its slot is no other one's. -/
theorem skip' (h : Vals p e t) {i d : Nat} {v : Value} (hk : p.K i = 2) (hd : ((List.range p.ks.length).all fun j => p.K j != 0 || p.D j != d) = true) : Vals p (upd e i true) (upd t d v) := by
  refine ⟨fun j hj he => ?_⟩
  have hl := p.lt (i := j) (by omega)
  have := (List.all_eq_true.1 hd) j (List.mem_range.2 hl)
  simp [hj] at this
  rw [upd_ne _ _ (by rintro rfl; omega)] at he
  rw [upd_ne _ _ this]
  exact h.val j hj he
end Vals
/-- The memory of a region whose one store s comes behind the operations rs. -/
structure MLast (W0 W1 : World) (s : Nat) (rs : List Nat) (e : Nat → Bool) (wr : World) : Prop where
  mk ::
  a : e s = false → wr = W0
  b : e s = true → wr = W1
  d : e s = true → ∀ r ∈ rs, e r = true
namespace MLast
variable {W0 W1 wr : World} {s : Nat} {rs : List Nat} {e : Nat → Bool}
theorem start (W0 W1 : World) (s : Nat) (rs : List Nat) : MLast W0 W1 s rs (fun _ => false) W0 := ⟨fun _ => rfl, (fun h => by cases h), (fun h => by cases h)⟩
theorem get (h : MLast W0 W1 s rs e wr) (r : Nat) (hr : r ∈ rs) (he : e r = false) : wr = W0 := by
  refine h.a ?_
  cases k : e s with
  | false => rfl
  | true => rw [h.d k r hr] at he; cases he
theorem mark (h : MLast W0 W1 s rs e wr) {i : Nat} (hi : s ≠ i) : MLast W0 W1 s rs (upd e i true) wr := by
  refine ⟨fun k => h.a (by rw [upd_ne _ _ hi] at k; exact k), fun k => h.b (by rw [upd_ne _ _ hi] at k; exact k), fun k r hr => ?_⟩
  rw [upd_ne _ _ hi] at k
  by_cases hri : r = i
  · rw [hri, upd_at]
  · rw [upd_ne _ _ hri]; exact h.d k r hr
theorem done (_ : MLast W0 W1 s rs e wr) (hall : ∀ r ∈ rs, e r = true) : MLast W0 W1 s rs (upd e s true) W1 := by
  refine ⟨(fun k => by rw [upd_at] at k; cases k), fun _ => rfl, fun _ r hr => ?_⟩
  by_cases hri : r = s
  · rw [hri, upd_at]
  · rw [upd_ne _ _ hri]; exact hall r hr
end MLast
end Go.Proofs.YtbadingdklenhaaGreatDoor
