/-
  Plain mathematics for math/bits.Div64: a number of two words divided by one of one word, half a word at a time.
-/
import Derived.Test.YtbkfmkbjfifgjaaNumMath
namespace Go.Proofs.Ytbkfmkbjfifgjaa

/-- Half a step: u, v over y1, y0 (halves): the quotient is guessed by y1 alone, and made less till it is right. -/
structure Half (y1 y0 u v : Nat) : Prop where
  mk ::
  lo : 2147483648 ≤ y1
  hi : y1 < 4294967296
  low : y0 < 4294967296
  up : u < y1 * 4294967296 + y0
  vv : v < 4294967296
def halfQ (y1 y0 u v : Nat) : Nat := (u * 4294967296 + v) / (y1 * 4294967296 + y0)

theorem halfQ_lt {y1 y0 u v : Nat} (h : Half y1 y0 u v) : halfQ y1 y0 u v < 4294967296 := by
  obtain ⟨h1, h2, h3, h4, h5⟩ := h
  unfold halfQ
  rw [Nat.div_lt_iff_lt_mul (by omega)]
  have := Nat.mul_le_mul_right 4294967296 (show u + 1 ≤ y1 * 4294967296 + y0 by omega)
  rw [Nat.mul_comm 4294967296]
  omega
theorem half_start {y1 y0 u v : Nat} (h : Half y1 y0 u v) : halfQ y1 y0 u v ≤ u / y1 ∧ u / y1 ≤ 4294967297 ∧ u % y1 < 4294967296 ∧ u / y1 * y1 + u % y1 = u := by
  obtain ⟨h1, h2, h3, h4, h5⟩ := h
  refine ⟨?_, ?_, ?_, ?_⟩
  · unfold halfQ
    have e : (u * 4294967296 + v) / (y1 * 4294967296) = u / y1 := by
      rw [Nat.mul_comm y1, ← Nat.div_div_eq_div_mul]
      congr 1; omega
    rw [← e]
    exact Nat.div_le_div_left (by omega) (by omega)
  · have : u / y1 < 4294967298 := by
      rw [Nat.div_lt_iff_lt_mul (by omega)]
      omega
    omega
  · exact Nat.lt_trans (Nat.mod_lt _ (by omega)) h2
  · rw [Nat.mul_comm]; exact Nat.div_add_mod u y1

/-- What stays so while the guess is made less. -/
structure Guess (y1 y0 u v q r : Nat) : Prop where
  mk ::
  eq : q * y1 + r = u
  ge : halfQ y1 y0 u v ≤ q
  le : q ≤ 4294967297

theorem guess_val {y1 y0 u q r : Nat} (eq : q * y1 + r = u) : q * (y1 * 4294967296 + y0) + r * 4294967296 = u * 4294967296 + q * y0 := by
  rw [Nat.mul_add, ← eq, Nat.add_mul, Nat.mul_assoc]; omega

theorem guess_over {y1 y0 u v q r : Nat} (h : Half y1 y0 u v) (g : Guess y1 y0 u v q r) (hc : 4294967296 ≤ q ∨ 4294967296 * r + v < q * y0) : halfQ y1 y0 u v + 1 ≤ q := by
  rcases hc with hc | hc
  · have := halfQ_lt h; omega
  · have e := guess_val (y0 := y0) g.eq
    have : halfQ y1 y0 u v < q := by
      unfold halfQ
      rw [Nat.div_lt_iff_lt_mul (by have := h.lo; omega)]
      omega
    omega
theorem guess_right {y1 y0 u v q r : Nat} (h : Half y1 y0 u v) (g : Guess y1 y0 u v q r) (hc : q * y0 ≤ 4294967296 * r + v) : q = halfQ y1 y0 u v := by
  have e := guess_val (y0 := y0) g.eq
  have : q ≤ halfQ y1 y0 u v := by
    unfold halfQ
    rw [Nat.le_div_iff_mul_le (by have := h.lo; omega)]
    omega
  have := g.ge
  omega
theorem guess_next {y1 y0 u v q r : Nat} (g : Guess y1 y0 u v q r) (ho : halfQ y1 y0 u v + 1 ≤ q) : Guess y1 y0 u v (q - 1) (r + y1) ∧ q - 1 ≤ 4294967296 := by
  obtain ⟨q', rfl⟩ : ∃ q', q = q' + 1 := ⟨q - 1, by omega⟩
  have e := g.eq
  have l := g.le
  rw [Nat.add_mul, Nat.one_mul] at e
  exact ⟨⟨by simp; omega, by omega, by omega⟩, by omega⟩
theorem guess_break {y1 y0 u v q r : Nat} (h : Half y1 y0 u v) (g : Guess y1 y0 u v q r) (hq : q ≤ 4294967296) (hr : 4294967296 ≤ r) : q = halfQ y1 y0 u v := by
  apply guess_right h g
  have h1 : q * y0 ≤ 4294967296 * y0 := Nat.mul_le_mul_right _ hq
  have h2 := h.low
  omega

/-- What is left behind half a step. -/
def halfR (y1 y0 u v : Nat) : Nat := (u * 4294967296 + v) % (y1 * 4294967296 + y0)
theorem halfR_eq (y1 y0 u v : Nat) : halfQ y1 y0 u v * (y1 * 4294967296 + y0) + halfR y1 y0 u v = u * 4294967296 + v := by
  unfold halfQ halfR; rw [Nat.mul_comm]; exact Nat.div_add_mod _ _
theorem halfR_lt {y1 y0 u v : Nat} (h : Half y1 y0 u v) : halfR y1 y0 u v < y1 * 4294967296 + y0 := Nat.mod_lt _ (by have := h.lo; omega)
theorem half_next {y1 y0 u v v' : Nat} (h : Half y1 y0 u v) (hv : v' < 4294967296) : Half y1 y0 (halfR y1 y0 u v) v' := ⟨h.lo, h.hi, h.low, halfR_lt h, hv⟩

/-- Both halves. -/
theorem two_halves {y1 y0 u v v' : Nat} (h : Half y1 y0 u v) : (u * 18446744073709551616 + (v * 4294967296 + v')) / (y1 * 4294967296 + y0) = halfQ y1 y0 u v * 4294967296 + halfQ y1 y0 (halfR y1 y0 u v) v' := by
  have e := halfR_eq y1 y0 u v
  have hy : 0 < y1 * 4294967296 + y0 := by have := h.lo; omega
  obtain ⟨Y, hY⟩ : ∃ Y, y1 * 4294967296 + y0 = Y := ⟨_, rfl⟩
  rw [hY] at e hy
  rw [hY]
  obtain ⟨q, hq⟩ : ∃ q, halfQ y1 y0 u v = q := ⟨_, rfl⟩
  obtain ⟨r, hr⟩ : ∃ r, halfR y1 y0 u v = r := ⟨_, rfl⟩
  rw [hq, hr] at e
  rw [hq, hr]
  have e2 : u * 18446744073709551616 + (v * 4294967296 + v') = Y * (q * 4294967296) + (r * 4294967296 + v') := by
    rw [← Nat.mul_assoc, Nat.mul_comm Y q]
    obtain ⟨P, hP⟩ : ∃ P, q * Y = P := ⟨_, rfl⟩
    rw [hP] at e ⊢
    clear hP hq hr hy hY h
    omega
  have e3 : halfQ y1 y0 r v' = (r * 4294967296 + v') / Y := by unfold halfQ; rw [hY]
  rw [e3, e2, Nat.mul_add_div hy]

/-- Shifted so that the divisor's first bit is set, the quotient is the same. -/
theorem shifted (hi lo y s : Nat) (hs : s ≤ 63) :
    (hi * 18446744073709551616 + lo) / y = ((hi * 2 ^ s + lo / 2 ^ (64 - s)) * 18446744073709551616 + lo * 2 ^ s % 18446744073709551616) / (y * 2 ^ s) := by
  have hp : 0 < 2 ^ s := Nat.two_pow_pos s
  rw [← Nat.mul_div_mul_right _ y hp]
  congr 1
  have e64 : (18446744073709551616 : Nat) = 2 ^ (64 - s) * 2 ^ s := by rw [← Nat.pow_add, show 64 - s + s = 64 by omega]
  have e1 : lo * 2 ^ s / 18446744073709551616 = lo / 2 ^ (64 - s) := by
    rw [e64]; exact Nat.mul_div_mul_right _ _ hp
  have e2 := Nat.div_add_mod (lo * 2 ^ s) 18446744073709551616
  rw [e1] at e2
  rw [Nat.add_mul, Nat.add_mul, show hi * 18446744073709551616 * 2 ^ s = hi * 2 ^ s * 18446744073709551616 by ac_rfl]
  omega
theorem or_halves (hi l s : Nat) (hl : l < 2 ^ s) : (hi * 2 ^ s) ||| l = hi * 2 ^ s + l := by
  rw [← Nat.shiftLeft_eq, ← Nat.shiftLeft_add_eq_or_of_lt hl]
end Go.Proofs.Ytbkfmkbjfifgjaa
