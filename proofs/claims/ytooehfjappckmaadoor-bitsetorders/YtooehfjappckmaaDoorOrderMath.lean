/-
  Plain mathematics: which of two sets comes first; the greatest number; how many are below a number.
-/
import Derived.Test.YtooehfjappckmaaDoorPopMath
namespace Go.Proofs.YtooehfjappckmaaDoor
open Go.RowKit

/-- Of the greatest number below m that just one has: 1, if it is the first one's; -1, if the second one's; 0: there is none. -/
def cmpP (p q : Nat → Bool) : Nat → Int
  | 0 => 0
  | m + 1 => if p m && !q m then 1 else if q m && !p m then -1 else cmpP p q m
theorem cmpP_same {p q : Nat → Bool} {a b : Nat} (h : a ≤ b) (hs : ∀ j, a ≤ j → j < b → p j = q j) : cmpP p q b = cmpP p q a := by
  obtain ⟨d, rfl⟩ := Nat.exists_eq_add_of_le h
  clear h
  induction d with
  | zero => rfl
  | succ d ih =>
    rw [← Nat.add_assoc, cmpP, hs (a + d) (by omega) (by omega), ih (fun j h1 h2 => hs j h1 (by omega))]
    cases q (a + d) <;> rfl
theorem cmpP_add (p q : Nat → Bool) (a : Nat) : ∀ b, cmpP p q (a + b) = if cmpP (fun j => p (a + j)) (fun j => q (a + j)) b = 0 then cmpP p q a else cmpP (fun j => p (a + j)) (fun j => q (a + j)) b := by
  intro b
  induction b with
  | zero => rfl
  | succ b ih =>
    rw [← Nat.add_assoc, cmpP, cmpP, ih]
    cases p (a + b) <;> cases q (a + b) <;> rfl
def cmp3 (x y : Nat) : Int := if x < y then -1 else if y < x then 1 else 0
theorem cmp_nat (f g : Nat → Bool) (m : Nat) : cmp3 (natOf f m) (natOf g m) = cmpP f g m := by
  induction m with
  | zero => rfl
  | succ m ih =>
    have h1 := natOf_lt f m
    have h2 := natOf_lt g m
    rw [cmpP, ← ih]
    unfold cmp3
    rw [natOf, natOf]
    cases hf : f m <;> cases hg : g m <;> simp <;> (repeat' split) <;> omega
theorem cmp_word (p q : Nat → Bool) (k : Nat) : cmpP p q (64 * (k + 1)) = if cmp3 (wd p k) (wd q k) = 0 then cmpP p q (64 * k) else cmp3 (wd p k) (wd q k) := by
  rw [Nat.mul_add, Nat.mul_one, cmpP_add]
  unfold wd
  rw [cmp_nat]
theorem cmp_words {p q : Nat → Bool} {n m : Nat} (hp : ∀ i, n ≤ i → p i = false) (hq : ∀ i, m ≤ i → q i = false) : cmpP p q (64 * max (nw n) (nw m)) = cmpP p q (max n m) :=
  cmpP_same (by unfold nw; omega) fun j h1 _ => by rw [hp j (by omega), hq j (by omega)]

/-- The greatest one below m; -1: there is none. -/
def lastP (p : Nat → Bool) : Nat → Int
  | 0 => -1
  | m + 1 => if p m then (m : Int) else lastP p m
theorem lastP_some {p : Nat → Bool} {m t : Nat} (h : t < m) (hp : p t = true) (hn : ∀ j, t < j → j < m → p j = false) : lastP p m = (t : Int) := by
  induction m with
  | zero => omega
  | succ m ih =>
    rw [lastP]
    by_cases e : t = m
    · rw [← e, hp]; rfl
    · rw [hn m (by omega) (by omega)]
      exact ih (by omega) (fun j h1 h2 => hn j h1 (by omega))
theorem lastP_none {p : Nat → Bool} {m : Nat} (hn : ∀ j, j < m → p j = false) : lastP p m = -1 := by
  induction m with
  | zero => rfl
  | succ m ih => rw [lastP, hn m (by omega)]; exact ih fun j h => hn j (by omega)
theorem last_word {p : Nat → Bool} {n k : Nat} (hout : ∀ i, n ≤ i → p i = false) (hz : ∀ i, 64 * (k + 1) ≤ i → p i = false) (hv : wd p k ≠ 0) :
    1 ≤ Lib.bitLen (wd p k) ∧ Lib.bitLen (wd p k) ≤ 64 ∧ lastP p n = ((64 * k + (Lib.bitLen (wd p k) - 1) : Nat) : Int) := by
  unfold Lib.bitLen
  obtain ⟨h1, h2⟩ := bitLenAux_is 64 (wd p k) (wd_lt p k)
  obtain ⟨h3, h4⟩ := h2 hv
  have h5 : Lib.bitLenAux 64 (wd p k) ≤ 64 := by
    rcases Nat.lt_or_ge 64 (Lib.bitLenAux 64 (wd p k)) with h | h
    · have h6 : 2 ^ 64 ≤ 2 ^ (Lib.bitLenAux 64 (wd p k) - 1) := Nat.pow_le_pow_right (by omega) (by omega)
      have := wd_lt p k
      omega
    · exact h
  generalize Lib.bitLenAux 64 (wd p k) = L at *
  have hb : (wd p k).testBit (L - 1) = true := by
    rw [Nat.testBit_eq_decide_div_mod_eq]
    have e : wd p k / 2 ^ (L - 1) = 1 := by
      have h6 : 2 ^ L = 2 * 2 ^ (L - 1) := by rw [show L = (L - 1) + 1 by omega, Nat.pow_succ]; simp; omega
      rw [h6] at h1
      have hp := Nat.two_pow_pos (L - 1)
      exact Nat.div_eq_of_lt_le (by omega) (by omega)
    rw [e]; rfl
  have hp : p (64 * k + (L - 1)) = true := by
    rw [wd_bit] at hb
    simp only [Bool.and_eq_true] at hb
    exact hb.2
  refine ⟨h3, h5, lastP_some ?_ hp fun j j1 j2 => ?_⟩
  · rcases Nat.lt_or_ge (64 * k + (L - 1)) n with h | h
    · exact h
    · rw [hout _ h] at hp; cases hp
  · by_cases h : j < 64 * (k + 1)
    · have hb2 : (wd p k).testBit (j - 64 * k) = false := Nat.testBit_lt_two_pow (Nat.lt_of_lt_of_le h1 (Nat.pow_le_pow_right (by omega) (by omega)))
      rw [wd_bit, show 64 * k + (j - 64 * k) = j by omega] at hb2
      simpa [show j - 64 * k < 64 by omega] using hb2
    · exact hz j (by omega)
theorem lastP_lst (p : Nat → Bool) (m : Nat) : (cnt p m = 0 ∧ lastP p m = -1) ∨ (0 < cnt p m ∧ lastP p m = ((lst p m).getD (cnt p m - 1) 0 : Nat)) := by
  induction m with
  | zero => exact .inl ⟨rfl, rfl⟩
  | succ m ih =>
    rw [cnt, lastP, lst]
    cases hp : p m with
    | true =>
      refine .inr ⟨by simp, ?_⟩
      simp only [if_true, Nat.add_sub_cancel]
      rw [List.getD_eq_getElem?_getD, List.getElem?_append_right (by rw [lst_len]; omega), lst_len]
      simp
    | false =>
      simpa using ih

/-- How many are below a number. -/
def rk (n : Nat) (p : Nat → Bool) (i : Int) : Nat := cnt p (min i.toNat n)
theorem rank_word (p : Nat → Bool) (k j : Nat) (hj : j < 64) : cnt p (64 * k + j) = cnt p (64 * k) + cnt (wd p k &&& (2 ^ j - 1)).testBit 64 := by
  rw [cnt_add]
  congr 1
  have h1 : cnt (wd p k &&& (2 ^ j - 1)).testBit 64 = cnt (wd p k &&& (2 ^ j - 1)).testBit j :=
    cnt_beyond (fun t ht => by rw [Nat.testBit_and, Nat.testBit_two_pow_sub_one]; simp; omega) (by omega)
  rw [h1]
  refine cnt_congr fun t ht => ?_
  rw [Nat.testBit_and, Nat.testBit_two_pow_sub_one, wd_bit]
  simp [ht]; omega
/-- .. told by the list. -/
def belowL (l : List Nat) (i : Int) : Nat → Nat
  | 0 => 0
  | k + 1 => belowL l i k + (if ((l.getD k 0 : Nat) : Int) < i then 1 else 0)
theorem belowL_append (l r : List Nat) (i : Int) {k : Nat} (hk : k ≤ l.length) : belowL (l ++ r) i k = belowL l i k := by
  induction k with
  | zero => rfl
  | succ k ih =>
    rw [belowL, belowL, ih (by omega), List.getD_eq_getElem?_getD, List.getElem?_append_left (by omega), ← List.getD_eq_getElem?_getD]
theorem belowL_rk (p : Nat → Bool) (i : Int) (m : Nat) : belowL (lst p m) i (cnt p m) = rk m p i := by
  induction m with
  | zero => unfold rk; simp [cnt, belowL]
  | succ m ih =>
    unfold rk at *
    rw [cnt, lst]
    cases hp : p m with
    | false =>
      simp only [Bool.false_eq_true, if_false, Nat.add_zero, List.append_nil]
      rw [ih]
      by_cases h : i.toNat ≤ m
      · congr 1; omega
      · rw [show min i.toNat m = m by omega, show min i.toNat (m + 1) = m + 1 by omega, cnt, hp]; rfl
    | true =>
      simp only [if_true]
      rw [belowL, belowL_append _ _ _ (by rw [lst_len]; omega), ih, List.getD_eq_getElem?_getD, List.getElem?_append_right (by rw [lst_len]; omega), lst_len]
      simp only [Nat.sub_self, List.getElem?_cons_zero, Option.getD_some]
      by_cases h : i.toNat ≤ m
      · rw [if_neg (by omega), Nat.add_zero, show min i.toNat (m + 1) = min i.toNat m by omega]
      · rw [if_pos (by omega), show min i.toNat m = m by omega, show min i.toNat (m + 1) = m + 1 by omega, cnt, hp]; rfl
end Go.Proofs.YtooehfjappckmaaDoor
