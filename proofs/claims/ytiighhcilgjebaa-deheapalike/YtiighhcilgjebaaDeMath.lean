/-
  A list of entries that loses its last ones, one by one: those that are left, and those that are gone, the very last one first; how many have a bound that is no less.
-/
import Derived.Test.YtiighhcilgjebaaDeAsk
namespace Go.Proofs.Ytiighhcilgjebaa

/-- What is left when j are gone; what is gone. -/
def evL (m : List En) (j : Nat) : List En := m.take (m.length - j)
def evO (m : List En) (j : Nat) : List En := m.reverse.take j
theorem evL_zero (m : List En) : evL m 0 = m := by simp [evL]
theorem evO_zero (m : List En) : evO m 0 = [] := rfl
theorem evL_length (m : List En) (j : Nat) : (evL m j).length = m.length - j := by simp [evL]
theorem evO_length (m : List En) (j : Nat) : (evO m j).length = min j m.length := by simp [evO]
theorem evO_le {m : List En} {j : Nat} (h : j ≤ m.length) : (evO m j).length = j := by rw [evO_length]; omega
theorem evL_succ (m : List En) (j : Nat) : tlE true (evL m j) = evL m (j + 1) := by
  show (m.take (m.length - j)).dropLast = m.take (m.length - (j + 1))
  rw [List.dropLast_eq_take, List.take_take, List.length_take]
  congr 1
  omega
theorem last_evL {m : List En} {j : Nat} (h : j < m.length) : hdE true (evL m j) = m[m.length - 1 - j]'(by omega) := by
  show (m.take (m.length - j)).getLastD zeroE = _
  rw [List.getLastD_eq_getLast?, List.getLast?_eq_getElem?, List.length_take, List.getElem?_take]
  rw [if_pos (by omega), show min (m.length - j) m.length - 1 = m.length - 1 - j by omega, List.getElem?_eq_getElem (by omega)]
  rfl
theorem evO_succ {m : List En} {j : Nat} (h : j < m.length) : evO m (j + 1) = evO m j ++ [hdE true (evL m j)] := by
  unfold evO
  rw [last_evL h, List.take_succ_eq_append_getElem (by simpa using h), List.getElem_reverse]
theorem evO_rev (m : List En) (j : Nat) : (evO m j).reverse = m.drop (m.length - j) := by
  unfold evO
  rw [List.take_reverse, List.reverse_reverse]
theorem ev_parts (m : List En) (j : Nat) : evL m j ++ (evO m j).reverse = m := by
  rw [evO_rev, evL, List.take_append_drop]
/-- How many of the last ones have a bound that is no less. -/
def cutN (m : List En) (b : Int) : Nat := (m.reverse.takeWhile (fun x => decide (b ≤ x.b))).length
theorem cutN_le (m : List En) (b : Int) : cutN m b ≤ m.length := by
  unfold cutN
  exact Nat.le_trans (List.takeWhile_sublist _).length_le (by simp)
theorem takeWhile_at {p : En → Bool} : ∀ (l : List En) (j : Nat) (h : j < l.length), j ≤ (l.takeWhile p).length → (p l[j] = true ↔ j < (l.takeWhile p).length)
  | [], j, h, _ => by simp at h
  | a :: r, 0, h, _ => by
    rw [List.takeWhile_cons]
    cases hp : p a <;> simp [hp]
  | a :: r, j + 1, h, k => by
    rw [List.takeWhile_cons] at k ⊢
    cases hp : p a
    · simp [hp] at k
    · simp only [hp, if_true, List.length_cons] at k ⊢
      have := takeWhile_at (p := p) r j (by simpa using h) (by omega)
      rw [List.getElem_cons_succ, this]
      omega
theorem cutN_at {m : List En} {b : Int} {j : Nat} (h : j < m.length) (k : j ≤ cutN m b) : b ≤ (hdE true (evL m j)).b ↔ j < cutN m b := by
  have := takeWhile_at (p := fun x => decide (b ≤ x.b)) m.reverse j (by simpa using h) k
  rw [List.getElem_reverse, decide_eq_true_iff] at this
  rw [last_evL h]
  exact this
end Go.Proofs.Ytiighhcilgjebaa
