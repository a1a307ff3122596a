/-
  Plain mathematics for the document's own numbers (digits by 65536, the lowest first). Nothing of the program is read here.
-/
import Derived.Test.YtjaabjehegcnaaaDoorNumMath
namespace Go.Proofs.YtjaabjehegcnaaaDoor

/-- What digits, the lowest first, come to. -/
def val : List Nat → Nat
  | [] => 0
  | d :: r => d + 65536 * val r

/-- A number's digits, without noughts ahead. -/
def dig (n : Nat) : List Nat := if h : n = 0 then [] else n % 65536 :: dig (n / 65536)
termination_by n
decreasing_by exact Nat.div_lt_self (by omega) (by omega)

/-- Digits. -/
def Dg (ds : List Nat) : Prop := ∀ i, i < ds.length → ds.getD i 0 < 65536

theorem dig_zero : dig 0 = [] := by unfold dig; simp
theorem dig_pos {n : Nat} (h : n ≠ 0) : dig n = n % 65536 :: dig (n / 65536) := by rw [dig, dif_neg h]

theorem Dg.nil : Dg [] := fun i h => by simp at h
theorem Dg.cons {d : Nat} {r : List Nat} (hd : d < 65536) (hr : Dg r) : Dg (d :: r) := by
  intro i h
  cases i with
  | zero => simpa using hd
  | succ k => simpa using hr k (by simpa using h)
theorem Dg.tail {d : Nat} {r : List Nat} (h : Dg (d :: r)) : Dg r := fun i hi => by simpa using h (i + 1) (by simpa using hi)
theorem Dg.head {d : Nat} {r : List Nat} (h : Dg (d :: r)) : d < 65536 := by simpa using h 0 (by simp)
theorem Dg.take {ds : List Nat} (h : Dg ds) (n : Nat) : Dg (ds.take n) := by
  intro i hi
  have h1 : i < ds.length := by simp at hi; omega
  have h2 : i < n := by simp at hi; omega
  have := h i h1
  simpa [List.getD_eq_getElem?_getD, List.getElem?_take, h2] using this
theorem Dg.snoc {ds : List Nat} {d : Nat} (h : Dg ds) (hd : d < 65536) : Dg (ds ++ [d]) := by
  intro i hi
  simp at hi
  by_cases h1 : i < ds.length
  · have := h i h1
    simpa [List.getD_eq_getElem?_getD, List.getElem?_append, h1] using this
  · have e : i = ds.length := by omega
    subst e
    simpa [List.getD_eq_getElem?_getD, List.getElem?_append] using hd

theorem val_dig (n : Nat) : val (dig n) = n := by
  induction n using Nat.strongRecOn with
  | ind n ih =>
    by_cases h : n = 0
    · subst h; rw [dig_zero]; rfl
    · rw [dig_pos h, val, ih _ (Nat.div_lt_self (by omega) (by omega))]; omega
theorem Dg_dig (n : Nat) : Dg (dig n) := by
  induction n using Nat.strongRecOn with
  | ind n ih =>
    by_cases h : n = 0
    · subst h; rw [dig_zero]; exact Dg.nil
    · rw [dig_pos h]; exact Dg.cons (by omega) (ih _ (Nat.div_lt_self (by omega) (by omega)))
theorem dig_nil {n : Nat} : dig n = [] ↔ n = 0 := by
  constructor
  · intro h; have := val_dig n; rw [h] at this; exact this.symm
  · intro h; rw [h, dig_zero]
theorem dig_len_pos {n : Nat} : 0 < (dig n).length ↔ n ≠ 0 := by
  rw [List.length_pos_iff, ne_eq, dig_nil]

theorem val_append (a b : List Nat) : val (a ++ b) = val a + 65536 ^ a.length * val b := by
  induction a with
  | nil => simp [val]
  | cons d r ih =>
    simp only [List.cons_append, val, ih, List.length_cons, Nat.pow_succ, Nat.mul_add]
    rw [Nat.mul_comm (65536 ^ r.length) 65536, Nat.mul_assoc]; omega
theorem val_snoc (a : List Nat) (d : Nat) : val (a ++ [d]) = val a + 65536 ^ a.length * d := by rw [val_append]; simp [val]
theorem val_lt {ds : List Nat} (h : Dg ds) : val ds < 65536 ^ ds.length := by
  induction ds with
  | nil => simp [val]
  | cons d r ih =>
    have h1 := h.head
    have h2 := ih h.tail
    simp only [val, List.length_cons, Nat.pow_succ]
    omega
theorem val_split (ds : List Nat) (n : Nat) : val ds = val (ds.take n) + 65536 ^ (ds.take n).length * val (ds.drop n) := by
  rw [← val_append, List.take_append_drop]

/-- Digits without noughts ahead are the number's. -/
theorem dig_unique {ds : List Nat} (h : Dg ds) (hn : ds = [] ∨ ds.getD (ds.length - 1) 0 ≠ 0) : ds = dig (val ds) := by
  induction ds with
  | nil => simp [val, dig_zero]
  | cons d r ih =>
    have h1 := h.head
    have h2 := h.tail
    have hn := hn.resolve_left (by simp)
    have hr : r = [] ∨ r.getD (r.length - 1) 0 ≠ 0 := by
      by_cases hr : r = []
      · exact Or.inl hr
      · right
        have hl : 0 < r.length := List.length_pos_iff.2 hr
        have e : (d :: r).length - 1 = (r.length - 1) + 1 := by simp; omega
        rw [e] at hn
        simpa using hn
    have e := ih h2 hr
    have hv : val (d :: r) ≠ 0 := by
      intro hv
      simp only [val] at hv
      have hd0 : d = 0 := by omega
      have hv0 : val r = 0 := by omega
      rw [hv0, dig_zero] at e
      subst e; subst hd0
      simp at hn
    have q1 : val (d :: r) % 65536 = d := by simp only [val]; omega
    have q2 : val (d :: r) / 65536 = val r := by simp only [val]; omega
    rw [dig_pos hv, q1, q2, ← e]

theorem dig_len_le {n k : Nat} (h : n < 65536 ^ k) : (dig n).length ≤ k := by
  induction k generalizing n with
  | zero => simp at h; subst h; rw [dig_zero]; simp
  | succ k ih =>
    by_cases h0 : n = 0
    · subst h0; rw [dig_zero]; simp
    · rw [dig_pos h0]
      have := @ih (n / 65536) (by rw [Nat.pow_succ] at h; omega)
      simp; omega
theorem dig_len_lt {a b : Nat} (h : (dig a).length < (dig b).length) : a < b := by
  apply Nat.lt_of_not_le
  intro hle
  have h1 := val_lt (Dg_dig a)
  rw [val_dig] at h1
  have := dig_len_le (Nat.lt_of_le_of_lt hle h1)
  omega

/-- Stripping noughts ahead. -/
theorem dig_take {ds : List Nat} {n : Nat} (h : Dg ds) (hn : n ≤ ds.length) (hv : val (ds.take n) = val ds) (he : n = 0 ∨ ds.getD (n - 1) 0 ≠ 0) : ds.take n = dig (val ds) := by
  rw [← hv]
  apply dig_unique (h.take n)
  rcases he with rfl | he
  · left; simp
  · by_cases h0 : n = 0
    · left; simp [h0]
    · right
      have e1 : (ds.take n).length = n := by simp; omega
      rw [e1]
      simpa [List.getD_eq_getElem?_getD, List.getElem?_take, show n - 1 < n by omega] using he
theorem val_take_step {ds : List Nat} {n : Nat} (hn : n + 1 ≤ ds.length) (h0 : ds.getD n 0 = 0) : val (ds.take n) = val (ds.take (n + 1)) := by
  have hl : n < ds.length := by omega
  rw [List.take_succ_eq_append_getElem hl, val_snoc]
  have : ds[n] = 0 := by simpa [List.getD_eq_getElem?_getD, hl] using h0
  rw [this]; simp

/-- Two lists of digits, alike from i + 1 on: the digit at i decides. -/
theorem val_lt_of {a b : List Nat} {i : Nat} (ha : Dg a) (hl : a.length = b.length) (hi : i < a.length) (he : a.drop (i + 1) = b.drop (i + 1)) (h : a.getD i 0 < b.getD i 0) : val a < val b := by
  have hi' : i < b.length := by omega
  rw [val_split a (i + 1), val_split b (i + 1), he, List.take_succ_eq_append_getElem hi, List.take_succ_eq_append_getElem hi', val_snoc, val_snoc]
  have h1 := val_lt (ha.take i)
  have e1 : (a.take i).length = i := by simp; omega
  have e2 : (b.take i).length = i := by simp; omega
  have g1 : a[i] = a.getD i 0 := by simp [List.getD_eq_getElem?_getD, hi]
  have g2 : b[i] = b.getD i 0 := by simp [List.getD_eq_getElem?_getD, hi']
  rw [e1] at h1
  have e3 : (a.take i ++ [a[i]]).length = i + 1 := by simp; omega
  have e4 : (b.take i ++ [b[i]]).length = i + 1 := by simp; omega
  rw [e3, e4, e1, e2, g1, g2]
  have h2 : 65536 ^ i * (a.getD i 0) + 65536 ^ i ≤ 65536 ^ i * b.getD i 0 := by
    rw [← Nat.mul_succ]; exact Nat.mul_le_mul_left _ h
  omega
theorem drop_step {a b : List Nat} {i : Nat} (hi : i < a.length) (hi' : i < b.length) (he : a.drop (i + 1) = b.drop (i + 1)) (h : a.getD i 0 = b.getD i 0) : a.drop i = b.drop i := by
  rw [List.drop_eq_getElem_cons hi, List.drop_eq_getElem_cons hi', he]
  have g1 : a[i] = a.getD i 0 := by simp [List.getD_eq_getElem?_getD, hi]
  have g2 : b[i] = b.getD i 0 := by simp [List.getD_eq_getElem?_getD, hi']
  rw [g1, g2, h]

/-- The k lowest digits. -/
def low (m : Nat) : Nat → List Nat
  | 0 => []
  | k + 1 => low m k ++ [m / 65536 ^ k % 65536]
theorem low_len (m k : Nat) : (low m k).length = k := by
  induction k with
  | zero => rfl
  | succ k ih => simp [low, ih]
theorem low_Dg (m k : Nat) : Dg (low m k) := by
  induction k with
  | zero => exact Dg.nil
  | succ k ih => exact ih.snoc (Nat.mod_lt _ (by omega))
theorem low_val (m k : Nat) : val (low m k) = m % 65536 ^ k := by
  induction k with
  | zero => simp [low, val]; omega
  | succ k ih =>
    rw [low, val_snoc, ih, low_len, Nat.pow_succ, Nat.mod_mul]
end Go.Proofs.YtjaabjehegcnaaaDoor
