/-
  Plain mathematics for layer 2 (ratio): good ratios, the good ratio of two numbers. Nothing of the program is read here.
-/
import Derived.Test.YtjaabjehegcnaaaDoorNumMath
namespace Go.Proofs.YtjaabjehegcnaaaDoor
open Go.RowKit

/-- Is the ratio good? -/
def goodB (n d : Int) : Bool := decide (0 < d ∧ n.gcd d = 1)
/-- The good ratio of n divided by d, wherever it lies. -/
def mkP (n d : Int) : Int := if d < 0 then -(n / (n.gcd d : Int)) else n / (n.gcd d : Int)
def mkQ (n d : Int) : Int := if d < 0 then -(d / (n.gcd d : Int)) else d / (n.gcd d : Int)
/-- Is there one, and with both its numbers in 64 bits? -/
def mkB (n d : Int) : Bool := decide (d ≠ 0) && (fitB (mkP n d) && fitB (mkQ n d))
def mkN (n d : Int) : Int := if mkB n d = true then mkP n d else 0
def mkD (n d : Int) : Int := if mkB n d = true then mkQ n d else 0

theorem good_out {n d : Int} (h : goodB n d = true) : 0 < d ∧ n.gcd d = 1 := of_decide_eq_true h
theorem good_in {n d : Int} (h1 : 0 < d) (h2 : n.gcd d = 1) : goodB n d = true := decide_eq_true ⟨h1, h2⟩
theorem fitB_iff {v : Int} : fitB v = true ↔ I64 v := by unfold fitB I64; simp
theorem fitB_no {v : Int} : fitB v = false ↔ ¬ I64 v := by unfold fitB I64; simp

theorem gcd_pos {n d : Int} (hd : d ≠ 0) : 0 < n.gcd d := Int.gcd_pos_of_ne_zero_right n hd
theorem gcd_le_right {n d : Int} (hd : d ≠ 0) : (n.gcd d : Int) ≤ d.natAbs := by
  have := Int.gcd_le_natAbs_right n hd
  omega
theorem tdiv_gcd_left (n d : Int) : n.tdiv (n.gcd d : Int) = n / (n.gcd d : Int) := Int.tdiv_eq_ediv_of_dvd (Int.gcd_dvd_left n d)
theorem tdiv_gcd_right (n d : Int) : d.tdiv (n.gcd d : Int) = d / (n.gcd d : Int) := Int.tdiv_eq_ediv_of_dvd (Int.gcd_dvd_right n d)
theorem gcd_mul_left {n d : Int} : (n.gcd d : Int) * (n / (n.gcd d : Int)) = n := Int.mul_ediv_cancel' (Int.gcd_dvd_left n d)
theorem gcd_mul_right {n d : Int} : (n.gcd d : Int) * (d / (n.gcd d : Int)) = d := Int.mul_ediv_cancel' (Int.gcd_dvd_right n d)

/-- What is divided is no greater. -/
theorem div_in {g x q : Int} (hg : 0 < g) (e : g * q = x) (hx : I64 x) : I64 q := by
  obtain ⟨h0, h1⟩ := hx
  unfold I64
  constructor
  · refine Int.not_lt.1 fun h => ?_
    have : g * q ≤ 1 * q := Int.mul_le_mul_of_nonpos_right (by omega) (by omega)
    omega
  · refine Int.not_lt.1 fun h => ?_
    have : 1 * q ≤ g * q := Int.mul_le_mul_of_nonneg_right (by omega) (by omega)
    omega
theorem ndiv_in {n d : Int} (hd : d ≠ 0) (hn : I64 n) : I64 (n / (n.gcd d : Int)) := div_in (by have := gcd_pos (n := n) hd; omega) gcd_mul_left hn
theorem ddiv_in {n d : Int} (hd : d ≠ 0) (hn : I64 d) : I64 (d / (n.gcd d : Int)) := div_in (by have := gcd_pos (n := n) hd; omega) gcd_mul_right hn
theorem ddiv_sign {n d : Int} (hd : d ≠ 0) : 0 < d / (n.gcd d : Int) ↔ 0 < d := by
  have hg' : (0 : Int) < (n.gcd d : Int) := by have := gcd_pos (n := n) hd; omega
  have e := gcd_mul_right (n := n) (d := d)
  generalize (n.gcd d : Int) = g at *
  generalize d / g = q at *
  constructor
  · intro h; rw [← e]; exact Int.mul_pos hg' h
  · intro h; rw [← e] at h; exact Int.pos_of_mul_pos_right h hg'
theorem ddiv_ne {n d : Int} (hd : d ≠ 0) : d / (n.gcd d : Int) ≠ 0 := by
  intro h
  have e := gcd_mul_right (n := n) (d := d)
  rw [h] at e
  omega

/-- The one case in which the common divisor has no place. -/
theorem gcd_far {n d : Int} (hd : d ≠ 0) (hn : I64 n) (hd2 : I64 d) (h : ¬ I64 (n.gcd d : Int)) : d = -9223372036854775808 ∧ (n = 0 ∨ n = -9223372036854775808) ∧ (n.gcd d : Int) = 9223372036854775808 := by
  have h1 := gcd_le_right (n := n) hd
  obtain ⟨a, b⟩ := hn
  obtain ⟨c, e⟩ := hd2
  unfold I64 at h
  have e1 : d = -9223372036854775808 := by omega
  have e2 : (n.gcd d : Int) = 9223372036854775808 := by omega
  refine ⟨e1, ?_, e2⟩
  by_cases h0 : n = 0
  · exact Or.inl h0
  · right
    have := Int.gcd_le_natAbs_left (b := d) h0
    have e3 : n.natAbs = 9223372036854775808 := by omega
    omega
theorem mk_far {n d : Int} (hd : d ≠ 0) (hn : I64 n) (hd2 : I64 d) (h : ¬ I64 (n.gcd d : Int)) : mkN n d = wrap64 (n.tdiv d) ∧ mkD n d = 1 ∧ mkB n d = true := by
  obtain ⟨e1, e2, e3⟩ := gcd_far hd hn hd2 h
  have p : mkP n d = n.tdiv d := by
    unfold mkP
    rw [e3, if_pos (by omega)]
    rcases e2 with rfl | rfl <;> subst e1 <;> decide
  have q : mkQ n d = 1 := by
    unfold mkQ
    rw [e3, if_pos (by omega), e1]; decide
  have i : I64 (n.tdiv d) := by
    unfold I64
    rcases e2 with rfl | rfl <;> subst e1 <;> decide
  have b : mkB n d = true := by
    unfold mkB
    rw [p, q, fitB_iff.2 i]
    simp [hd]; decide
  unfold mkN mkD
  rw [b, p, q, wrap_in i]; simp
theorem mk_up {n d : Int} (hd : 0 < d) (hn : I64 n) (hd2 : I64 d) : mkN n d = n / (n.gcd d : Int) ∧ mkD n d = d / (n.gcd d : Int) ∧ mkB n d = true := by
  have p : mkP n d = n / (n.gcd d : Int) := by unfold mkP; rw [if_neg (by omega)]
  have q : mkQ n d = d / (n.gcd d : Int) := by unfold mkQ; rw [if_neg (by omega)]
  have b : mkB n d = true := by
    unfold mkB
    rw [p, q, fitB_iff.2 (ndiv_in (by omega) hn), fitB_iff.2 (ddiv_in (by omega) hd2)]
    simp; omega
  unfold mkN mkD
  rw [b, p, q]; simp
theorem mk_down {n d : Int} (hd : d < 0) : mkP n d = -(n / (n.gcd d : Int)) ∧ mkQ n d = -(d / (n.gcd d : Int)) := by
  unfold mkP mkQ
  rw [if_pos hd, if_pos hd]; simp
theorem mk_yes {n d : Int} (hd : d ≠ 0) (h1 : I64 (mkP n d)) (h2 : I64 (mkQ n d)) : mkN n d = mkP n d ∧ mkD n d = mkQ n d ∧ mkB n d = true := by
  have b : mkB n d = true := by unfold mkB; rw [fitB_iff.2 h1, fitB_iff.2 h2]; simp [hd]
  unfold mkN mkD
  rw [b]; simp
theorem mk_no {n d : Int} (h : ¬ (d ≠ 0 ∧ I64 (mkP n d) ∧ I64 (mkQ n d))) : mkN n d = 0 ∧ mkD n d = 0 ∧ mkB n d = false := by
  have b : mkB n d = false := by
    unfold mkB
    by_cases hd : d ≠ 0
    · by_cases h1 : I64 (mkP n d)
      · have h2 : ¬ I64 (mkQ n d) := fun h2 => h ⟨hd, h1, h2⟩
        rw [fitB_no.2 h2]; simp
      · rw [fitB_no.2 h1]; simp
    · simp only [ne_eq, Decidable.not_not] at hd; simp [hd]
  unfold mkN mkD
  rw [b]; simp
theorem mk_in (n d : Int) : I64 (mkN n d) ∧ I64 (mkD n d) := by
  by_cases h : d ≠ 0 ∧ I64 (mkP n d) ∧ I64 (mkQ n d)
  · obtain ⟨h0, h1, h2⟩ := h
    obtain ⟨e1, e2, _⟩ := mk_yes h0 h1 h2
    rw [e1, e2]; exact ⟨h1, h2⟩
  · obtain ⟨e1, e2, _⟩ := mk_no h
    rw [e1, e2]; unfold I64; omega
theorem gcd_div {n d : Int} (hd : d ≠ 0) : (n / (n.gcd d : Int)).gcd (d / (n.gcd d : Int)) = 1 := by
  have hg := gcd_pos (n := n) hd
  rw [Int.gcd_ediv (Int.gcd_dvd_left n d) (Int.gcd_dvd_right n d)]
  simp only [Int.natAbs_natCast]
  exact Nat.div_self hg
theorem mk_good {n d : Int} (h : mkB n d = true) : goodB (mkN n d) (mkD n d) = true := by
  have hn : d ≠ 0 ∧ I64 (mkP n d) ∧ I64 (mkQ n d) := by
    refine Classical.byContradiction fun hx => ?_
    rw [(mk_no hx).2.2] at h
    cases h
  obtain ⟨h0, h1, h2⟩ := hn
  obtain ⟨e1, e2, _⟩ := mk_yes h0 h1 h2
  rw [e1, e2]
  have hs := ddiv_sign (n := n) h0
  have hne := ddiv_ne (n := n) h0
  have hg := gcd_div (n := n) h0
  unfold mkP mkQ
  by_cases hd : d < 0
  · rw [if_pos hd, if_pos hd]
    exact good_in (by omega) (by rw [Int.neg_gcd, Int.gcd_neg]; exact hg)
  · rw [if_neg hd, if_neg hd]
    exact good_in (by omega) hg
end Go.Proofs.YtjaabjehegcnaaaDoor
