/-
  Plain mathematics for layer 3 (bitset): sets of numbers as truths, in words of 64 bits; how many, the next one, the list. Nothing of the program is read here.
-/
import Derived.WalkKit
import Derived.Laws.Bits64b
import Derived.Lib.Hide
import Derived.Lib.TrailingZeros
import Derived.Lib.BitFns
namespace Go.Proofs.YtooehfjappckmaaDoor
open Go.RowKit

def I64 (a : Int) : Prop := -9223372036854775808 ≤ a ∧ a ≤ 9223372036854775807
theorem on {a b c : World} (h1 : Below a.heap.size a b) (h2 : Below b.heap.size b c) : Below a.heap.size a c := h1.trans (h2.mono h1.size)

/-- The number whose bits below m are f. -/
def natOf (f : Nat → Bool) : Nat → Nat
  | 0 => 0
  | m + 1 => natOf f m + (if f m then 2 ^ m else 0)
theorem natOf_lt (f : Nat → Bool) (m : Nat) : natOf f m < 2 ^ m := by
  induction m with
  | zero => simp [natOf]
  | succ m ih => rw [natOf, Nat.pow_succ]; split <;> omega
theorem natOf_bit (f : Nat → Bool) (m j : Nat) : (natOf f m).testBit j = (decide (j < m) && f j) := by
  induction m with
  | zero => simp [natOf]
  | succ m ih =>
    rw [natOf]
    have hl := natOf_lt f m
    by_cases hf : f m = true
    · rw [if_pos hf, Nat.add_comm]
      rcases Nat.lt_trichotomy j m with h | h | h
      · rw [Nat.testBit_two_pow_add_gt h, ih]; simp [h, Nat.lt_succ_of_lt h]
      · subst h; rw [Nat.testBit_two_pow_add_eq, ih]; simp [hf]
      · rw [Nat.testBit_lt_two_pow (Nat.lt_of_lt_of_le (show 2 ^ m + natOf f m < 2 ^ (m + 1) by rw [Nat.pow_succ]; omega) (Nat.pow_le_pow_right (by omega) h))]
        simp; omega
    · rw [if_neg hf, Nat.add_zero, ih]
      by_cases h : j = m
      · subst h; simp [hf]
      · have : decide (j < m + 1) = decide (j < m) := by simp; omega
        rw [this]
theorem natOf_eq {f : Nat → Bool} {m u : Nat} (h : u < 2 ^ m) (hb : ∀ j, j < m → u.testBit j = f j) : u = natOf f m := by
  apply Nat.eq_of_testBit_eq
  intro j
  rw [natOf_bit]
  by_cases hj : j < m
  · rw [hb j hj]; simp [hj]
  · rw [Nat.testBit_lt_two_pow (Nat.lt_of_lt_of_le h (Nat.pow_le_pow_right (by omega) (by omega)))]; simp [hj]
theorem natOf_congr {f g : Nat → Bool} {m : Nat} (h : ∀ j, j < m → f j = g j) : natOf f m = natOf g m :=
  natOf_eq (natOf_lt f m) fun j hj => by rw [natOf_bit, h j hj]; simp [hj]

/-- Word k of a set. -/
def wd (p : Nat → Bool) (k : Nat) : Nat := natOf (fun j => p (64 * k + j)) 64
theorem wd_lt (p : Nat → Bool) (k : Nat) : wd p k < 18446744073709551616 := natOf_lt _ 64
theorem wd_bit (p : Nat → Bool) (k j : Nat) : (wd p k).testBit j = (decide (j < 64) && p (64 * k + j)) := natOf_bit _ _ _
theorem wd_eq {p : Nat → Bool} {k u : Nat} (h : u < 18446744073709551616) (hb : ∀ j, j < 64 → u.testBit j = p (64 * k + j)) : u = wd p k := natOf_eq h hb
theorem wd_congr {p q : Nat → Bool} {k : Nat} (h : ∀ j, j < 64 → p (64 * k + j) = q (64 * k + j)) : wd p k = wd q k := natOf_congr h
theorem wd_zero {p : Nat → Bool} {k : Nat} (h : ∀ j, j < 64 → p (64 * k + j) = false) : wd p k = 0 :=
  (wd_eq (by omega) fun j hj => by rw [h j hj]; simp).symm
theorem wd_ne {p : Nat → Bool} {k : Nat} (h : wd p k = 0) (j : Nat) (hj : j < 64) : p (64 * k + j) = false := by
  have := wd_bit p k j; rw [h] at this; simpa [hj] using this.symm
/-- How many words. -/
def nw (n : Nat) : Nat := (n + 63) / 64
theorem nw_le {n : Nat} (h : n ≤ 4096) : nw n ≤ 64 := by unfold nw; omega
theorem nw_at {n i : Nat} (h : i < n) : i / 64 < nw n := by unfold nw; omega
theorem wd_out {p : Nat → Bool} {n k : Nat} (h : ∀ i, n ≤ i → p i = false) (hk : nw n ≤ k) : wd p k = 0 :=
  wd_zero fun j _ => h _ (by unfold nw at hk; omega)

/-- How many below m. -/
def cnt (f : Nat → Bool) : Nat → Nat
  | 0 => 0
  | m + 1 => cnt f m + (if f m then 1 else 0)
theorem cnt_add (f : Nat → Bool) (a b : Nat) : cnt f (a + b) = cnt f a + cnt (fun j => f (a + j)) b := by
  induction b with
  | zero => simp [cnt]
  | succ b ih => rw [← Nat.add_assoc, cnt, cnt, ih]; omega
theorem cnt_congr {f g : Nat → Bool} {m : Nat} (h : ∀ j, j < m → f j = g j) : cnt f m = cnt g m := by
  induction m with
  | zero => rfl
  | succ m ih => rw [cnt, cnt, ih (fun j hj => h j (by omega)), h m (by omega)]
theorem cnt_le (f : Nat → Bool) (m : Nat) : cnt f m ≤ m := by
  induction m with
  | zero => simp [cnt]
  | succ m ih => rw [cnt]; split <;> omega
theorem cnt_none {f : Nat → Bool} {m : Nat} (h : ∀ j, j < m → f j = false) : cnt f m = 0 := by
  induction m with
  | zero => rfl
  | succ m ih => rw [cnt, ih (fun j hj => h j (by omega)), h m (by omega)]; rfl
theorem cnt_all {f : Nat → Bool} {m : Nat} (h : ∀ j, j < m → f j = true) : cnt f m = m := by
  induction m with
  | zero => rfl
  | succ m ih => rw [cnt, ih (fun j hj => h j (by omega)), h m (by omega)]; rfl
theorem cnt_beyond {f : Nat → Bool} {n m : Nat} (h : ∀ j, n ≤ j → f j = false) (hm : n ≤ m) : cnt f m = cnt f n := by
  obtain ⟨d, rfl⟩ := Nat.exists_eq_add_of_le hm
  rw [cnt_add, cnt_none (f := fun j => f (n + j)) (fun j _ => h _ (by omega))]; omega
theorem cnt_wd (p : Nat → Bool) (k : Nat) : cnt p (64 * (k + 1)) = cnt p (64 * k) + cnt (wd p k).testBit 64 := by
  rw [Nat.mul_add, Nat.mul_one, cnt_add, cnt_congr (f := fun j => p (64 * k + j)) (g := (wd p k).testBit) (fun j hj => by rw [wd_bit]; simp [hj])]
theorem cnt_mono (f : Nat → Bool) {a b : Nat} (h : a ≤ b) : cnt f a ≤ cnt f b := by
  obtain ⟨d, rfl⟩ := Nat.exists_eq_add_of_le h
  rw [cnt_add]; omega

/-- The least one of i, i + 1, .. (m of them); -1: there is none. -/
def nxt (p : Nat → Bool) : Nat → Nat → Int
  | _, 0 => -1
  | i, m + 1 => if p i then (i : Int) else nxt p (i + 1) m
theorem nxt_none {p : Nat → Bool} {m : Nat} : ∀ {i : Nat}, (∀ j, i ≤ j → j < i + m → p j = false) → nxt p i m = -1 := by
  induction m with
  | zero => intro i _; rfl
  | succ m ih => intro i h; rw [nxt, h i (by omega) (by omega)]; simp; exact ih fun j h1 h2 => h j (by omega) (by omega)
theorem nxt_some {p : Nat → Bool} {m : Nat} : ∀ {i d : Nat}, d < m → p (i + d) = true → (∀ j, i ≤ j → j < i + d → p j = false) → nxt p i m = ((i + d : Nat) : Int) := by
  induction m with
  | zero => intro i d h; omega
  | succ m ih =>
    intro i d hd hp h
    rw [nxt]
    cases d with
    | zero => rw [Nat.add_zero] at hp; rw [hp]; simp
    | succ d =>
      rw [h i (by omega) (by omega)]
      simp only [Bool.false_eq_true, if_false]
      rw [ih (i := i + 1) (d := d) (by omega) (by rw [← hp]; congr 1; omega) (fun j h1 h2 => h j (by omega) (by omega))]
      omega
theorem nxt_cases (p : Nat → Bool) (m : Nat) : ∀ i : Nat, (nxt p i m = -1 ∧ ∀ j, i ≤ j → j < i + m → p j = false) ∨ ∃ d, d < m ∧ nxt p i m = ((i + d : Nat) : Int) ∧ p (i + d) = true ∧ ∀ j, i ≤ j → j < i + d → p j = false := by
  induction m with
  | zero => intro i; exact .inl ⟨rfl, fun j h1 h2 => by omega⟩
  | succ m ih =>
    intro i
    by_cases hp : p i = true
    · exact .inr ⟨0, by omega, by rw [nxt, hp]; simp, hp, fun j h1 h2 => by omega⟩
    · have hp' : p i = false := by simpa using hp
      rcases ih (i + 1) with ⟨h1, h2⟩ | ⟨d, h1, h2, h3, h4⟩
      · refine .inl ⟨by rw [nxt, hp']; simpa using h1, fun j h3 h4 => ?_⟩
        by_cases e : j = i
        · rw [e]; exact hp'
        · exact h2 j (by omega) (by omega)
      · refine .inr ⟨d + 1, by omega, by rw [nxt, hp']; simp only [Bool.false_eq_true, if_false]; rw [h2]; omega, by rw [← h3]; congr 1; omega, fun j h5 h6 => ?_⟩
        by_cases e : j = i
        · rw [e]; exact hp'
        · exact h4 j (by omega) (by omega)

/-- A number put in (b), or taken out, if it is below n. -/
def put (n : Nat) (p : Nat → Bool) (i : Int) (b : Bool) : Nat → Bool := fun j => if (j : Int) = i ∧ j < n then b else p j
theorem put_out {n : Nat} {p : Nat → Bool} (h : ∀ i, n ≤ i → p i = false) (i : Int) (b : Bool) : ∀ j, n ≤ j → put n p i b j = false := by
  intro j hj; unfold put; rw [if_neg (by omega)]; exact h j hj
theorem put_beyond {n : Nat} {p : Nat → Bool} {i : Int} (h : i < 0 ∨ (n : Int) ≤ i) (b : Bool) : put n p i b = p := by
  funext j; unfold put; rw [if_neg (by omega)]

/-- The numbers below n, rising. -/
def lst (p : Nat → Bool) : Nat → List Nat
  | 0 => []
  | m + 1 => lst p m ++ (if p m then [m] else [])
theorem lst_len (p : Nat → Bool) (m : Nat) : (lst p m).length = cnt p m := by
  induction m with
  | zero => rfl
  | succ m ih => rw [lst, cnt, List.length_append, ih]; split <;> simp
theorem lst_lt {p : Nat → Bool} {m x : Nat} (h : x ∈ lst p m) : x < m := by
  induction m with
  | zero => simp [lst] at h
  | succ m ih =>
    rw [lst, List.mem_append] at h
    rcases h with h | h
    · have := ih h; omega
    · split at h <;> simp at h; omega
theorem lst_skip {p : Nat → Bool} {a b : Nat} (h : a ≤ b) (hn : ∀ j, a ≤ j → j < b → p j = false) : lst p b = lst p a := by
  obtain ⟨d, rfl⟩ := Nat.exists_eq_add_of_le h
  clear h
  induction d with
  | zero => rfl
  | succ d ih => rw [← Nat.add_assoc, lst, hn (a + d) (by omega) (by omega), ih (fun j h1 h2 => hn j h1 (by omega))]; simp

theorem two_pow_bit (i j : Nat) : (2 ^ i).testBit j = decide (i = j) := Nat.testBit_two_pow ..
end Go.Proofs.YtooehfjappckmaaDoor
