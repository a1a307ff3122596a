/-
  Plain mathematics for layer 2 (ratio), second part: rounding, comparing, sums and products.
-/
import Derived.Test.YtjaabjehegcnaaaDoorRatioMath
namespace Go.Proofs.YtjaabjehegcnaaaDoor
open Go.RowKit

def flo (n d : Int) : Int := if goodB n d = true then n.fdiv d else 0
def cei (n d : Int) : Int := if goodB n d = true then cdiv n d else 0
def rcm (a b c d : Int) : Int := if goodB a b = true ∧ goodB c d = true then cmp3 (a * d) (c * b) else 0
theorem div_of_pos {n d : Int} (h : 0 < d) : divB n d = true := by unfold divB; simp; omega
theorem cdiv_in {n d : Int} (h : 0 < d) (hn : I64 n) : I64 (cdiv n d) := by
  obtain ⟨h0, h1⟩ := hn
  have e := Int.mul_fdiv_add_fmod (-n) d
  have hm : 0 ≤ (-n).fmod d ∧ (-n).fmod d < d := by
    rw [Int.fmod_eq_emod_of_nonneg _ (by omega)]; exact ⟨Int.emod_nonneg _ (by omega), Int.emod_lt_of_pos _ h⟩
  unfold cdiv I64
  generalize (-n).fdiv d = q at *
  generalize (-n).fmod d = r at *
  constructor
  · refine Int.not_lt.1 fun hc => ?_
    have : d * 9223372036854775809 ≤ d * q := Int.mul_le_mul_of_nonneg_left (by omega) (by omega)
    omega
  · refine Int.not_lt.1 fun hc => ?_
    have : d * q ≤ d * (-9223372036854775808) := Int.mul_le_mul_of_nonneg_left (by omega) (by omega)
    omega

/-! ### the sum of two good ratios -/
def smX (a b d : Int) : Int := a * (d / (b.gcd d : Int))
def smY (b c d : Int) : Int := c * (b / (b.gcd d : Int))
def smM (b d : Int) : Int := b * (d / (b.gcd d : Int))
def smOk (a b c d : Int) : Bool := goodB a b && goodB c d && (fitB (smX a b d) && fitB (smY b c d) && fitB (smX a b d + smY b c d) && fitB (smM b d))
def smN (a b c d : Int) : Int := if smOk a b c d = true then mkN (smX a b d + smY b c d) (smM b d) else 0
def smD (a b c d : Int) : Int := if smOk a b c d = true then mkD (smX a b d + smY b c d) (smM b d) else 0
def smB (a b c d : Int) : Bool := smOk a b c d && mkB (smX a b d + smY b c d) (smM b d)

theorem sm_no {a b c d : Int} (h : smOk a b c d = false) : smN a b c d = 0 ∧ smD a b c d = 0 ∧ smB a b c d = false := by
  unfold smN smD smB; rw [h]; simp
theorem sm_yes {a b c d : Int} (h : smOk a b c d = true) : smN a b c d = mkN (smX a b d + smY b c d) (smM b d) ∧ smD a b c d = mkD (smX a b d + smY b c d) (smM b d) ∧ smB a b c d = mkB (smX a b d + smY b c d) (smM b d) := by
  unfold smN smD smB; rw [h]; simp
theorem smOk_bad1 {a b c d : Int} (h : goodB a b = false) : smOk a b c d = false := by unfold smOk; rw [h]; simp
theorem smOk_bad2 {a b c d : Int} (h : goodB c d = false) : smOk a b c d = false := by unfold smOk; rw [h]; simp
theorem smM_pos {b d : Int} (hb : 0 < b) (hd : 0 < d) : 0 < smM b d :=
  Int.mul_pos hb ((ddiv_sign (n := b) (d := d) (by omega)).2 hd)

/-! ### the product -/
def prNum (a b c d : Int) : Int := (a / (a.gcd d : Int)) * (c / (c.gcd b : Int))
def prDen (a b c d : Int) : Int := (b / (c.gcd b : Int)) * (d / (a.gcd d : Int))
def pdOk (a b c d : Int) : Bool := goodB a b && goodB c d && (fitB (prNum a b c d) && fitB (prDen a b c d))
def pdN (a b c d : Int) : Int := if pdOk a b c d = true then prNum a b c d else 0
def pdD (a b c d : Int) : Int := if pdOk a b c d = true then prDen a b c d else 0

theorem pd_no {a b c d : Int} (h : pdOk a b c d = false) : pdN a b c d = 0 ∧ pdD a b c d = 0 := by unfold pdN pdD; rw [h]; simp
theorem pd_yes {a b c d : Int} (h : pdOk a b c d = true) : pdN a b c d = prNum a b c d ∧ pdD a b c d = prDen a b c d := by unfold pdN pdD; rw [h]; simp
theorem pdOk_bad1 {a b c d : Int} (h : goodB a b = false) : pdOk a b c d = false := by unfold pdOk; rw [h]; simp
theorem pdOk_bad2 {a b c d : Int} (h : goodB c d = false) : pdOk a b c d = false := by unfold pdOk; rw [h]; simp

theorem mk_self {n d : Int} (h : goodB n d = true) (hn : I64 n) (hd : I64 d) : mkN n d = n ∧ mkD n d = d ∧ mkB n d = true := by
  obtain ⟨h1, h2⟩ := good_out h
  have := mk_up h1 hn hd
  rw [h2] at this
  simpa using this

theorem gcd_one_of_dvd {x y u v : Int} (h : x.gcd y = 1) (hu : u ∣ x) (hv : v ∣ y) : u.gcd v = 1 := by
  have h' : Nat.Coprime x.natAbs y.natAbs := by rw [Int.gcd_eq_natAbs_gcd_natAbs] at h; exact h
  rw [Int.gcd_eq_natAbs_gcd_natAbs]
  exact Nat.Coprime.coprime_dvd_left (Int.natAbs_dvd_natAbs.2 hu) (Nat.Coprime.coprime_dvd_right (Int.natAbs_dvd_natAbs.2 hv) h')
theorem gcd_one_mul {x y u v : Int} (h1 : x.gcd u = 1) (h2 : x.gcd v = 1) (h3 : y.gcd u = 1) (h4 : y.gcd v = 1) : (x * y).gcd (u * v) = 1 := by
  rw [Int.gcd_eq_natAbs_gcd_natAbs] at *
  rw [Int.natAbs_mul, Int.natAbs_mul]
  exact Nat.Coprime.mul_left (Nat.Coprime.mul_right h1 h2) (Nat.Coprime.mul_right h3 h4)
theorem div_dvd (n d : Int) : n / (n.gcd d : Int) ∣ n := ⟨(n.gcd d : Int), by rw [Int.mul_comm]; exact gcd_mul_left.symm⟩
theorem div_dvd' (n d : Int) : d / (n.gcd d : Int) ∣ d := ⟨(n.gcd d : Int), by rw [Int.mul_comm]; exact gcd_mul_right.symm⟩

theorem pr_good {a b c d : Int} (h1 : goodB a b = true) (h2 : goodB c d = true) : goodB (prNum a b c d) (prDen a b c d) = true := by
  obtain ⟨b0, g1⟩ := good_out h1
  obtain ⟨d0, g2⟩ := good_out h2
  refine good_in ?_ ?_
  · exact Int.mul_pos ((ddiv_sign (n := c) (d := b) (by omega)).2 b0) ((ddiv_sign (n := a) (d := d) (by omega)).2 d0)
  · unfold prNum prDen
    refine gcd_one_mul ?_ ?_ ?_ ?_
    · exact gcd_one_of_dvd g1 (div_dvd a d) (div_dvd' c b)
    · exact gcd_div (by omega)
    · exact gcd_div (by omega)
    · exact gcd_one_of_dvd g2 (div_dvd c b) (div_dvd' a d)
end Go.Proofs.YtjaabjehegcnaaaDoor
