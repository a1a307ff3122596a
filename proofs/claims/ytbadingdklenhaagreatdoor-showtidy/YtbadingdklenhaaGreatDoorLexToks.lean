/-
  A row of tokens in memory, that stays as new blocks come.
-/
import Derived.Test.YtbadingdklenhaaGreatDoorLexLex
namespace Go.Proofs.YtbadingdklenhaaGreatDoor
set_option maxRecDepth 100000
open Go.RowKit

theorem add0 (g j : Nat) : (⟨g, 0, none⟩ : Addr).add j = ⟨g, j, none⟩ := by unfold Addr.add; split <;> simp_all
def ToksAt (w : World) (g : Nat) (l : List Tk) : Prop := g < w.heap.size ∧ ∀ j v, (flatT l)[j]? = some v → w.cell? ⟨g, j, none⟩ = some v
theorem ToksAt.next {w w' : World} {g : Nat} {l : List Tk} (h : ToksAt w g l) (hb : Below w.heap.size w w') : ToksAt w' g l :=
  ⟨Nat.lt_of_lt_of_le h.1 hb.size, fun j v hj => by rw [hb.cell (by exact h.1)]; exact h.2 j v hj⟩
theorem flatT_at : ∀ (l : List Tk) (i : Nat) (x : Tk), l[i]? = some x → ∀ j, j < 5 → (flatT l)[i * 5 + j]? = (cells5 x)[j]?
  | [], i, x, h, _, _ => by simp at h
  | y :: l, 0, x, h, j, hj => by
    have : y = x := by simpa using h
    subst this
    rw [Nat.zero_mul, Nat.zero_add]
    exact List.getElem?_append_left (by simp [cells5]; omega)
  | y :: l, i + 1, x, h, j, hj => by
    have h2 : l[i]? = some x := by simpa using h
    have e := flatT_at l i x h2 j hj
    rw [← e]
    show (cells5 y ++ flatT l)[(i + 1) * 5 + j]? = _
    rw [List.getElem?_append_right (by simp [cells5]; omega)]
    congr 1
    simp [cells5]
    omega
theorem ToksAt.get {w : World} {g i : Nat} {l : List Tk} {x : Tk} (h : ToksAt w g l) (hi : l[i]? = some x) :
    w.cell? ⟨g, i * 5, none⟩ = some (.int .i64 (x.kind : Nat)) ∧ w.cell? ⟨g, i * 5 + 1, none⟩ = some (.string ⟨x.text.toArray⟩) ∧ w.cell? ⟨g, i * 5 + 2, none⟩ = some (.int .i64 x.n) ∧ w.cell? ⟨g, i * 5 + 3, none⟩ = some (.int .i64 (x.line : Nat)) ∧ w.cell? ⟨g, i * 5 + 4, none⟩ = some (.int .i64 (x.col : Nat)) :=
  ⟨h.2 _ _ (flatT_at l i x hi 0 (by omega)), h.2 _ _ (flatT_at l i x hi 1 (by omega)), h.2 _ _ (flatT_at l i x hi 2 (by omega)), h.2 _ _ (flatT_at l i x hi 3 (by omega)), h.2 _ _ (flatT_at l i x hi 4 (by omega))⟩
/-- A slice that reads as these tokens. -/
def Toks (w : World) (v : Value) (l : List Tk) : Prop := ∃ A cap, v = .slice A l.length cap ∧ l.length ≤ cap ∧ cap ≤ maxLen ∧ (0 < l.length → ∃ g, A = some ⟨g, 0, none⟩ ∧ ToksAt w g l)
theorem Toks.next {w w' : World} {v : Value} {l : List Tk} (h : Toks w v l) (hb : Below w.heap.size w w') : Toks w' v l := by
  obtain ⟨A, cap, h1, h2, h3, h4⟩ := h
  refine ⟨A, cap, h1, h2, h3, fun h0 => ?_⟩
  obtain ⟨g, h5, h6⟩ := h4 h0
  exact ⟨g, h5, h6.next hb⟩
theorem toks_of_own {w : World} {B : Nat} {t : TypeId} {v : Value} {l : List Tk} (h : w.ownsRow B t 5 v l.length (flatT l)) : Toks w v l := by
  rcases h.2 with ⟨hv, hn⟩ | ⟨g, cap, cur, hv, hb, hg, hnc, hmc, rest⟩
  · exact ⟨none, 0, by rw [hv, hn], by omega, by unfold maxLen; omega, fun h1 => absurd h1 (by omega)⟩
  · refine ⟨some ⟨g, 0, none⟩, cap, hv, by omega, by omega, fun h0 => ⟨g, rfl, (Array.getElem?_eq_some_iff.1 hg).1, fun j u hj => ?_⟩⟩
    subst hv
    have := h.cells (g := g) rfl j u hj
    rwa [add0] at this
end Go.Proofs.YtbadingdklenhaaGreatDoor
