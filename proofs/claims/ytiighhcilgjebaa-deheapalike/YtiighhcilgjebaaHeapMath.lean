/-
  Plain mathematics for layer 5 (mmheap): levels, what 'stands right' means, what swaps, rising and sinking do to it. Nothing of the program is read here.
-/
import Derived.Test.YtiighhcilgjebaaKeyMath
namespace Go.Proofs.Ytiighhcilgjebaa
open Go.RowKit Go.Lib Go.Sort

/-- Is the level of the place i an even one? -/
def evn (i : Nat) : Bool := if i = 0 then true else !evn ((i - 1) / 2)
termination_by i
decreasing_by omega
theorem evn_zero : evn 0 = true := by rw [evn]; rfl
theorem evn_up {i : Nat} (h : 0 < i) : evn i = !evn ((i - 1) / 2) := by rw [evn, if_neg (by omega)]
theorem evn_c1 (i : Nat) : evn (2 * i + 1) = !evn i := by rw [evn_up (by omega)]; congr 2; omega
theorem evn_c2 (i : Nat) : evn (2 * i + 2) = !evn i := by rw [evn_up (by omega)]; congr 2; omega
theorem evn_par {i : Nat} (h : 0 < i) : evn ((i - 1) / 2) = !evn i := by rw [evn_up h]; simp
theorem evn_gp {i : Nat} (h : 2 < i) : evn (((i - 1) / 2 - 1) / 2) = evn i := by
  rw [evn_par (by omega), evn_par (by omega)]; simp

/-- x comes ahead of y (up), or y ahead of x. -/
def blt (up : Bool) (x y : En) : Prop := if up then eltP x y else eltP y x
def bltB (up : Bool) (x y : En) : Bool := if up then eltB x y else eltB y x
def ble (up : Bool) (x y : En) : Prop := ¬ blt up y x
theorem bltB_iff (up : Bool) (x y : En) : bltB up x y = true ↔ blt up x y := by
  cases up <;> simp [bltB, blt, eltB_iff]
theorem bltB_false (up : Bool) (x y : En) : bltB up x y = false ↔ ¬ blt up x y := by rw [← bltB_iff]; simp
theorem ble_refl (up : Bool) (x : En) : ble up x x := by cases up <;> exact elt_irrefl x
theorem blt_trans {up : Bool} {x y z : En} (h : blt up x y) (k : blt up y z) : blt up x z := by
  cases up
  · exact elt_trans k h
  · exact elt_trans h k
theorem blt_asymm {up : Bool} {x y : En} (h : blt up x y) : ¬ blt up y x := by
  cases up <;> exact elt_asymm h
theorem blt_total (up : Bool) (x y : En) : blt up x y ∨ x = y ∨ blt up y x := by
  cases up
  · rcases elt_total x y with h | h | h
    · exact .inr (.inr h)
    · exact .inr (.inl h)
    · exact .inl h
  · exact elt_total x y
theorem ble_of {up : Bool} {x y : En} (h : blt up x y) : ble up x y := blt_asymm h
theorem ble_cases {up : Bool} {x y : En} (h : ble up x y) : blt up x y ∨ x = y := by
  rcases blt_total up x y with k | k | k
  · exact .inl k
  · exact .inr k
  · exact absurd k h
theorem ble_trans {up : Bool} {x y z : En} (h : ble up x y) (k : ble up y z) : ble up x z := by
  rcases ble_cases h with h | rfl
  · rcases ble_cases k with k | rfl
    · exact ble_of (blt_trans h k)
    · exact ble_of h
  · exact k
theorem blt_of_le {up : Bool} {x y z : En} (h : ble up x y) (k : blt up y z) : blt up x z := by
  rcases ble_cases h with h | rfl
  · exact blt_trans h k
  · exact k
theorem ble_flip {up : Bool} {x y : En} : ble (!up) x y ↔ ble up y x := by cases up <;> rfl
theorem blt_flip {up : Bool} {x y : En} : blt (!up) x y ↔ blt up y x := by cases up <;> rfl
theorem ble_antisymm {up : Bool} {x y : En} (h : ble up x y) (k : ble up y x) : x = y := by
  rcases ble_cases h with h | h
  · exact absurd h k
  · exact h

/-- The entry at the place i. -/
def nth (l : List En) (i : Nat) : En := l.getD i default
theorem nth_get {l : List En} {i : Nat} (h : i < l.length) : nth l i = l[i] := by
  unfold nth; rw [List.getD_eq_getElem?_getD, List.getElem?_eq_getElem h]; rfl
theorem nth_mem {l : List En} {i : Nat} (h : i < l.length) : nth l i ∈ l := by rw [nth_get h]; exact List.getElem_mem h
theorem mem_nth {l : List En} {x : En} (h : x ∈ l) : ∃ i, i < l.length ∧ nth l i = x := by
  obtain ⟨i, hi, rfl⟩ := List.mem_iff_getElem.1 h
  exact ⟨i, hi, nth_get hi⟩
/-- Two places swapped. -/
def swp (l : List En) (i k : Nat) : List En := (l.set i (nth l k)).set k (nth l i)
theorem swp_length (l : List En) (i k : Nat) : (swp l i k).length = l.length := by simp [swp]
theorem nth_set (l : List En) (i j : Nat) (x : En) (h : i < l.length) : nth (l.set i x) j = if j = i then x else nth l j := by
  unfold nth
  simp only [List.getD_eq_getElem?_getD, List.getElem?_set]
  by_cases hj : j = i
  · subst hj; simp [h]
  · rw [if_neg (fun e => hj e.symm), if_neg hj]
theorem nth_swp (l : List En) {i k : Nat} (j : Nat) (hi : i < l.length) (hk : k < l.length) : nth (swp l i k) j = if j = k then nth l i else if j = i then nth l k else nth l j := by
  unfold swp
  rw [nth_set _ _ _ _ (by simpa using hk), nth_set _ _ _ _ hi]
theorem swp_perm (l : List En) {i k : Nat} (hi : i < l.length) (hk : k < l.length) : (swp l i k).Perm l := by
  have h := Array.swap_perm (xs := l.toArray) (i := i) (j := k) (by simpa using hi) (by simpa using hk)
  have h2 := Array.perm_iff_toList_perm.1 h
  have e : (l.toArray.swap i k (by simpa using hi) (by simpa using hk)).toList = swp l i k := by
    simp [Array.swap, swp, nth_get hi, nth_get hk]
  rw [e] at h2
  simpa using h2

/-- k stands below j, one or two levels. -/
def Bel (j k : Nat) : Prop := k = 2 * j + 1 ∨ k = 2 * j + 2 ∨ k = 4 * j + 3 ∨ k = 4 * j + 4 ∨ k = 4 * j + 5 ∨ k = 4 * j + 6
/-- The place j stands right with what is below it. -/
def Loc (l : List En) (j : Nat) : Prop := ∀ k, Bel j k → k < l.length → ble (evn j) (nth l j) (nth l k)
def Right (l : List En) : Prop := ∀ j, Loc l j

theorem right_nil : Right [] := fun j q _ hq => absurd hq (by simp)
theorem par_lt {k : Nat} (h : 0 < k) : (k - 1) / 2 < k := by omega
/-- The first stands at 0. -/
theorem Right.least {l : List En} (h : Right l) : ∀ k, k < l.length → ble true (nth l 0) (nth l k) := by
  intro k
  induction k using Nat.strongRecOn with
  | _ k ih =>
    intro hk
    by_cases h0 : k = 0
    · subst h0; exact ble_refl _ _
    · cases he : evn k with
      | true =>
        by_cases h2 : 2 < k
        · have hg := h (((k - 1) / 2 - 1) / 2) k (by unfold Bel; omega) hk
          rw [evn_gp h2, he] at hg
          exact ble_trans (ih _ (by omega) (by omega)) hg
        · exfalso
          have : evn ((k - 1) / 2) = false := by rw [evn_par (by omega), he]; rfl
          rw [show (k - 1) / 2 = 0 by omega, evn_zero] at this
          cases this
      | false =>
        have hg := h ((k - 1) / 2) k (by unfold Bel; omega) hk
        rw [evn_par (by omega), he] at hg
        exact ble_trans (ih _ (by omega) (by omega)) hg
/-- None but those at 1 and 2 can be the last. -/
theorem Right.most {l : List En} (h : Right l) : ∀ k, 0 < k → k < l.length → ble true (nth l k) (nth l 1) ∨ (2 < l.length ∧ ble true (nth l k) (nth l 2)) := by
  intro k
  induction k using Nat.strongRecOn with
  | _ k ih =>
    intro h0 hk
    by_cases h2 : 2 < k
    · cases he : evn k with
      | true =>
        have hg := h ((k - 1) / 2) k (by unfold Bel; omega) hk
        rw [evn_par (by omega), he, ble_flip] at hg
        rcases ih ((k - 1) / 2) (by omega) (by omega) (by omega) with h1 | ⟨h1, h1'⟩
        · exact .inl (ble_trans hg h1)
        · exact .inr ⟨h1, ble_trans hg h1'⟩
      | false =>
        have hg := h (((k - 1) / 2 - 1) / 2) k (by unfold Bel; omega) hk
        rw [evn_gp h2, he] at hg
        have hg' : ble true (nth l k) (nth l (((k - 1) / 2 - 1) / 2)) := hg
        by_cases hz : ((k - 1) / 2 - 1) / 2 = 0
        · exfalso
          have := evn_gp h2
          rw [hz, evn_zero, he] at this
          cases this
        · rcases ih (((k - 1) / 2 - 1) / 2) (by omega) (by omega) (by omega) with h1 | ⟨h1, h1'⟩
          · exact .inl (ble_trans hg' h1)
          · exact .inr ⟨h1, ble_trans hg' h1'⟩
    · have : k = 1 ∨ k = 2 := by omega
      rcases this with rfl | rfl
      · exact .inl (ble_refl _ _)
      · exact .inr ⟨hk, ble_refl _ _⟩
/-- The place of the last. -/
def lastP (l : List En) : Nat := if l.length < 3 then l.length - 1 else if bltB false (nth l 2) (nth l 1) = true then 2 else 1
theorem lastP_lt {l : List En} (h : 0 < l.length) : lastP l < l.length ∧ lastP l ≤ 2 := by
  unfold lastP
  split
  · omega
  · split <;> omega
theorem Right.last {l : List En} (h : Right l) : ∀ k, k < l.length → ble true (nth l k) (nth l (lastP l)) := by
  intro k hk
  by_cases h1 : l.length = 1
  · have e : lastP l = 0 := by unfold lastP; rw [if_pos (by omega), h1]
    rw [e, show k = 0 by omega]
    exact ble_refl _ _
  · have h0 := (lastP_lt (l := l) (by omega))
    by_cases hk0 : k = 0
    · subst hk0
      exact h.least _ h0.1
    · by_cases h3 : l.length < 3
      · have e : lastP l = 1 := by unfold lastP; rw [if_pos h3]; omega
        rw [e, show k = 1 by omega]
        exact ble_refl _ _
      · unfold lastP
        rw [if_neg h3]
        cases hb : bltB false (nth l 2) (nth l 1) with
        | true =>
          rw [if_pos rfl]
          have hb' : blt true (nth l 1) (nth l 2) := (bltB_iff _ _ _).1 hb
          rcases h.most k (by omega) hk with h4 | ⟨_, h4⟩
          · exact ble_trans h4 (ble_of hb')
          · exact h4
        | false =>
          rw [if_neg (by simp)]
          have hb' : ble true (nth l 2) (nth l 1) := (bltB_false _ _ _).1 hb
          rcases h.most k (by omega) hk with h4 | ⟨_, h4⟩
          · exact h4
          · exact ble_trans h4 hb'
end Go.Proofs.Ytiighhcilgjebaa
