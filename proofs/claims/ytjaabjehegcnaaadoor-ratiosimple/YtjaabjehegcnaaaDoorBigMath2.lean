/-
  Plain mathematics for the document's own numbers, second part: adding and taking away, digit by digit; products.
-/
import Derived.Test.YtjaabjehegcnaaaDoorBigMath
namespace Go.Proofs.YtjaabjehegcnaaaDoor

theorem pow_step (m k : Nat) : m / 65536 ^ (k + 1) = m / 65536 ^ k / 65536 := by rw [Nat.pow_succ, Nat.div_div_eq_div_mul]

theorem dig_get (m k : Nat) : (dig m).getD k 0 = m / 65536 ^ k % 65536 := by
  induction k generalizing m with
  | zero =>
    by_cases h : m = 0
    · subst h; rw [dig_zero]; simp
    · rw [dig_pos h]; simp
  | succ k ih =>
    by_cases h : m = 0
    · subst h; rw [dig_zero]; simp
    · rw [dig_pos h]
      simp only [List.getD_cons_succ]
      rw [ih, Nat.pow_succ, Nat.mul_comm, Nat.div_div_eq_div_mul]
theorem dig_out {m k : Nat} (h : (dig m).length ≤ k) : m / 65536 ^ k = 0 := by
  have h1 := val_lt (Dg_dig m)
  rw [val_dig] at h1
  exact Nat.div_eq_of_lt (Nat.lt_of_lt_of_le h1 (Nat.pow_le_pow_right (by omega) h))

/-- Adding: at place k, with a carry c. -/
def AddAt (m n k c : Nat) : Prop := (m + n) / 65536 ^ k = c + m / 65536 ^ k + n / 65536 ^ k ∧ c ≤ 1
theorem AddAt.start (m n : Nat) : AddAt m n 0 0 := by unfold AddAt; simp
theorem AddAt.step {m n k c a b : Nat} (h : AddAt m n k c) (ha : m / 65536 ^ k % 65536 = a) (hb : n / 65536 ^ k % 65536 = b) :
    AddAt m n (k + 1) ((c + a + b) / 65536) ∧ (c + a + b) % 65536 = (m + n) / 65536 ^ k % 65536 := by
  obtain ⟨h1, h2⟩ := h
  unfold AddAt
  rw [pow_step, pow_step, pow_step, h1]
  generalize m / 65536 ^ k = M at *
  generalize n / 65536 ^ k = N at *
  omega
theorem AddAt.done {m n k : Nat} (h : AddAt m n k 0) (ha : m / 65536 ^ k = 0) (hb : n / 65536 ^ k = 0) : val (low (m + n) k) = m + n := by
  obtain ⟨h1, _⟩ := h
  rw [ha, hb] at h1
  rw [low_val]
  exact Nat.mod_eq_of_lt ((Nat.div_eq_zero_iff_lt (Nat.pow_pos (by omega))).1 h1)

/-- Taking away: at place k, with a borrow c. -/
def SubAt (m n k c : Nat) : Prop := m / 65536 ^ k = (m - n) / 65536 ^ k + n / 65536 ^ k + c ∧ c ≤ 1
theorem SubAt.start {m n : Nat} (h : n ≤ m) : SubAt m n 0 0 := by unfold SubAt; simp; omega
theorem SubAt.step {m n k c a b : Nat} (h : SubAt m n k c) (ha : m / 65536 ^ k % 65536 = a) (hb : n / 65536 ^ k % 65536 = b) :
    (a < c + b → SubAt m n (k + 1) 1 ∧ c + b ≤ a + 65536 ∧ a + 65536 - (c + b) = (m - n) / 65536 ^ k % 65536) ∧
    (¬ a < c + b → SubAt m n (k + 1) 0 ∧ a - (c + b) = (m - n) / 65536 ^ k % 65536) := by
  obtain ⟨h1, h2⟩ := h
  unfold SubAt
  rw [pow_step, pow_step, pow_step]
  generalize m / 65536 ^ k = M at *
  generalize n / 65536 ^ k = N at *
  generalize (m - n) / 65536 ^ k = Q at *
  omega
theorem SubAt.done {m n k c : Nat} (h : SubAt m n k c) (ha : m / 65536 ^ k = 0) : val (low (m - n) k) = m - n := by
  obtain ⟨h1, _⟩ := h
  have h2 : (m - n) / 65536 ^ k = 0 := by
    rw [ha] at h1
    generalize (m - n) / 65536 ^ k = Q at *
    generalize n / 65536 ^ k = N at *
    omega
  rw [low_val]
  exact Nat.mod_eq_of_lt ((Nat.div_eq_zero_iff_lt (Nat.pow_pos (by omega))).1 h2)

/-! ### products -/
theorem val_set {ds : List Nat} {j : Nat} (h : j < ds.length) (v : Nat) : val (ds.set j v) + 65536 ^ j * ds.getD j 0 = val ds + 65536 ^ j * v := by
  induction ds generalizing j with
  | nil => simp at h
  | cons d r ih =>
    cases j with
    | zero => simp [val]; omega
    | succ j =>
      have := ih (j := j) (by simpa using h)
      simp only [List.set_cons_succ, val, List.getD_cons_succ, Nat.pow_succ]
      rw [Nat.mul_comm (65536 ^ j) 65536, Nat.mul_assoc, Nat.mul_assoc]
      omega
theorem Dg.set {ds : List Nat} {v : Nat} (h : Dg ds) (hv : v < 65536) (j : Nat) : Dg (ds.set j v) := by
  intro i hi
  simp at hi
  have := h i hi
  rw [List.getD_eq_getElem?_getD] at this ⊢
  rw [List.getElem?_set]
  split
  · split <;> simp_all
  · exact this

/-- In the product's row i, at column k, with a carry c, the digits so far being D. -/
def MulAt (D : List Nat) (m n i k c : Nat) : Prop := val D + c * 65536 ^ (i + k) = (m % 65536 ^ i) * n + (m / 65536 ^ i % 65536) * 65536 ^ i * (n % 65536 ^ k)

theorem MulAt.start {D : List Nat} {m n i : Nat} (h : val D = (m % 65536 ^ i) * n) : MulAt D m n i 0 0 := by
  unfold MulAt; rw [h]; simp [Nat.mod_one]
theorem MulAt.step {D : List Nat} {m n i k c a b d : Nat} (h : MulAt D m n i k c) (hj : i + k < D.length) (hd : D.getD (i + k) 0 = d) (ha : m / 65536 ^ i % 65536 = a) (hb : n / 65536 ^ k % 65536 = b) :
    MulAt (D.set (i + k) ((c + d + a * b) % 65536)) m n i (k + 1) ((c + d + a * b) / 65536) := by
  unfold MulAt at *
  have e1 := val_set hj ((c + d + a * b) % 65536)
  rw [hd] at e1
  rw [ha] at h ⊢
  have en : n % 65536 ^ (k + 1) = n % 65536 ^ k + 65536 ^ k * b := by rw [Nat.pow_succ, Nat.mod_mul, hb]
  rw [en]
  obtain ⟨t, ht⟩ : ∃ t, c + d + a * b = t := ⟨_, rfl⟩
  rw [ht] at e1 ⊢
  have e2 : i + (k + 1) = i + k + 1 := by omega
  rw [e2, Nat.pow_succ, Nat.mul_add]
  have e3 : 65536 ^ (i + k) * (t % 65536) + (t / 65536) * (65536 ^ (i + k) * 65536) = 65536 ^ (i + k) * c + 65536 ^ (i + k) * d + 65536 ^ (i + k) * (a * b) := by
    have : t % 65536 + 65536 * (t / 65536) = c + d + a * b := by rw [ht]; omega
    rw [← Nat.mul_add, ← Nat.mul_add, ← this, Nat.mul_add]
    rw [Nat.mul_comm (t / 65536) (65536 ^ (i + k) * 65536), Nat.mul_assoc]
  have e4 : a * 65536 ^ i * (65536 ^ k * b) = 65536 ^ (i + k) * (a * b) := by
    rw [Nat.pow_add]; ac_rfl
  rw [e4]
  rw [Nat.mul_comm c] at h
  omega
theorem MulAt.carry {D : List Nat} {m n i k c lb : Nat} (h : MulAt D m n i k c) (hl : (dig n).length ≤ lb) (hk : lb < k) : c = 0 := by
  unfold MulAt at h
  have hn : n < 65536 ^ lb := by
    have h1 := val_lt (Dg_dig n)
    rw [val_dig] at h1
    exact Nat.lt_of_lt_of_le h1 (Nat.pow_le_pow_right (by omega) hl)
  have hnk : n % 65536 ^ k = n := Nat.mod_eq_of_lt (Nat.lt_of_lt_of_le hn (Nat.pow_le_pow_right (by omega) (by omega)))
  rw [hnk, ← Nat.add_mul] at h
  have e : m % 65536 ^ i + m / 65536 ^ i % 65536 * 65536 ^ i = m % 65536 ^ (i + 1) := by
    rw [Nat.pow_succ, Nat.mod_mul, Nat.mul_comm]
  rw [e] at h
  have hm : m % 65536 ^ (i + 1) < 65536 ^ (i + 1) := Nat.mod_lt _ (Nat.pow_pos (by omega))
  have hlt : m % 65536 ^ (i + 1) * n < 65536 ^ (i + k) := by
    calc m % 65536 ^ (i + 1) * n ≤ m % 65536 ^ (i + 1) * 65536 ^ lb := Nat.mul_le_mul_left _ (by omega)
      _ < 65536 ^ (i + 1) * 65536 ^ lb := Nat.mul_lt_mul_of_pos_right hm (Nat.pow_pos (by omega))
      _ = 65536 ^ (i + 1 + lb) := (Nat.pow_add _ _ _).symm
      _ ≤ 65536 ^ (i + k) := Nat.pow_le_pow_right (by omega) (by omega)
  apply Nat.eq_zero_of_not_pos
  intro hc
  have : 65536 ^ (i + k) ≤ c * 65536 ^ (i + k) := Nat.le_mul_of_pos_left _ hc
  omega
theorem MulAt.done {D : List Nat} {m n i k lb : Nat} (h : MulAt D m n i k 0) (hl : (dig n).length ≤ lb) (hk : lb ≤ k) : val D = (m % 65536 ^ (i + 1)) * n := by
  unfold MulAt at h
  have hn : n < 65536 ^ lb := by
    have h1 := val_lt (Dg_dig n)
    rw [val_dig] at h1
    exact Nat.lt_of_lt_of_le h1 (Nat.pow_le_pow_right (by omega) hl)
  have hnk : n % 65536 ^ k = n := Nat.mod_eq_of_lt (Nat.lt_of_lt_of_le hn (Nat.pow_le_pow_right (by omega) hk))
  rw [hnk, ← Nat.add_mul] at h
  have e : m % 65536 ^ i + m / 65536 ^ i % 65536 * 65536 ^ i = m % 65536 ^ (i + 1) := by
    rw [Nat.pow_succ, Nat.mod_mul, Nat.mul_comm]
  rw [e] at h
  simpa using h
theorem val_zeros (n : Nat) : val (List.replicate n 0) = 0 := by
  induction n with
  | zero => rfl
  | succ n ih => simp [List.replicate_succ, val, ih]
theorem Dg_zeros (n : Nat) : Dg (List.replicate n 0) := by
  intro i hi
  simp at hi
  simp [List.getD_eq_getElem?_getD, hi]
end Go.Proofs.YtjaabjehegcnaaaDoor
