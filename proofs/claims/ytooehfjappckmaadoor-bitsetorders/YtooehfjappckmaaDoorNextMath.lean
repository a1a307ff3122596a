/-
  Plain mathematics: a bit of a word; the next number by words.
-/
import Derived.Test.YtooehfjappckmaaDoorPopMath
namespace Go.Proofs.YtooehfjappckmaaDoor
open Go.RowKit

theorem bit_and (u j : Nat) (hu : u < 18446744073709551616) : bits .and .u64 ((u : Int) / 2 ^ j) 1 = if u.testBit j = true then 1 else 0 := by
  have e : (u : Int) / 2 ^ j = ((u / 2 ^ j : Nat) : Int) := by simp
  rw [e, show (1 : Int) = ((1 : Nat) : Int) from rfl, bits_and_u64_nat (u / 2 ^ j) 1 (Nat.lt_of_le_of_lt (Nat.div_le_self _ _) hu) (by omega), Nat.and_one_is_mod]
  have h := Nat.testBit_eq_decide_div_mod_eq (x := u) (i := j)
  by_cases hb : u / 2 ^ j % 2 = 1
  · rw [hb]; rw [hb] at h; simp [h]
  · have h0 : u / 2 ^ j % 2 = 0 := by omega
    rw [h0]; rw [h0] at h; simp [h]

/-- The answer of Next at a number from 0 up. -/
def nx (n : Nat) (p : Nat → Bool) (i : Nat) : Int := nxt p i (n - i)
/-- .. at every number. -/
def nxI (n : Nat) (p : Nat → Bool) (i : Int) : Int := nx n p i.toNat

theorem nx_beyond {n i : Nat} (p : Nat → Bool) (h : n ≤ i) : nx n p i = -1 := by unfold nx; rw [show n - i = 0 by omega]; rfl
theorem nx_some {n i t : Nat} {p : Nat → Bool} (hit : i ≤ t) (htn : t < n) (hp : p t = true) (h : ∀ j, i ≤ j → j < t → p j = false) : nx n p i = (t : Int) := by
  unfold nx
  obtain ⟨d, rfl⟩ := Nat.exists_eq_add_of_le hit
  exact nxt_some (by omega) hp h
theorem nx_none {n i : Nat} {p : Nat → Bool} (h : ∀ j, i ≤ j → j < n → p j = false) : nx n p i = -1 := by
  unfold nx
  exact nxt_none fun j h1 h2 => h j h1 (by omega)

theorem next_in {n k j : Nat} {p : Nat → Bool} (hout : ∀ i, n ≤ i → p i = false) (hv : wd p k / 2 ^ j ≠ 0) :
    Lib.ctz 64 (wd p k / 2 ^ j) < 64 ∧ 64 * k + j + Lib.ctz 64 (wd p k / 2 ^ j) < n ∧ nx n p (64 * k + j) = ((64 * k + j + Lib.ctz 64 (wd p k / 2 ^ j) : Nat) : Int) := by
  obtain ⟨h1, h2, h3⟩ := ctz_is hv (Nat.lt_of_le_of_lt (Nat.div_le_self _ _) (wd_lt p k))
  generalize Lib.ctz 64 (wd p k / 2 ^ j) = c at *
  rw [Nat.testBit_div_two_pow, wd_bit] at h2
  simp only [Bool.and_eq_true, decide_eq_true_eq] at h2
  have hp : p (64 * k + j + c) = true := by rw [show 64 * k + j + c = 64 * k + (c + j) by omega]; exact h2.2
  have hlt : 64 * k + j + c < n := by
    rcases Nat.lt_or_ge (64 * k + j + c) n with h | h
    · exact h
    · rw [hout _ h] at hp; cases hp
  refine ⟨h1, hlt, nx_some (by omega) hlt hp fun t ht1 ht2 => ?_⟩
  have := h3 (t - (64 * k + j)) (by omega)
  rw [Nat.testBit_div_two_pow, wd_bit] at this
  have e : 64 * k + (t - (64 * k + j) + j) = t := by omega
  rw [e] at this
  simpa [show t - (64 * k + j) + j < 64 by omega] using this
theorem next_not {k j : Nat} {p : Nat → Bool} (hv : wd p k / 2 ^ j = 0) : ∀ t, 64 * k + j ≤ t → t < 64 * (k + 1) → p t = false := by
  intro t h1 h2
  have : (wd p k / 2 ^ j).testBit (t - (64 * k + j)) = false := by rw [hv]; simp
  rw [Nat.testBit_div_two_pow, wd_bit] at this
  have e : 64 * k + (t - (64 * k + j) + j) = t := by omega
  rw [e] at this
  simpa [show t - (64 * k + j) + j < 64 by omega] using this
theorem next_word {n k i : Nat} {p : Nat → Bool} (hout : ∀ i, n ≤ i → p i = false) (hik : i ≤ 64 * k) (hb : ∀ t, i ≤ t → t < 64 * k → p t = false) (hv : wd p k ≠ 0) :
    Lib.ctz 64 (wd p k) < 64 ∧ nx n p i = ((64 * k + Lib.ctz 64 (wd p k) : Nat) : Int) := by
  have h := next_in (k := k) (j := 0) hout (by simpa using hv)
  rw [Nat.pow_zero, Nat.div_one] at h
  obtain ⟨h1, h2, h3⟩ := h
  simp only [Nat.add_zero] at h2 h3
  refine ⟨h1, ?_⟩
  obtain ⟨_, g2, g3⟩ := ctz_is hv (wd_lt p k)
  generalize Lib.ctz 64 (wd p k) = c at *
  rw [wd_bit] at g2
  simp only [Bool.and_eq_true, decide_eq_true_eq] at g2
  refine nx_some (by omega) h2 g2.2 fun t ht1 ht2 => ?_
  by_cases h : t < 64 * k
  · exact hb t ht1 h
  · have := g3 (t - 64 * k) (by omega)
    rw [wd_bit, show 64 * k + (t - 64 * k) = t by omega] at this
    simpa [show t - 64 * k < 64 by omega] using this
end Go.Proofs.YtooehfjappckmaaDoor
