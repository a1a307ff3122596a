/-
  Plain mathematics for RatioSimple: Den by Den, the first that has a whole number between is the simplest ratio's.
-/
import Derived.Test.YtjaabjehegcnaaaDoorNearMath
import Derived.Test.YtjaabjehegcnaaaDoorBackMath
namespace Go.Proofs.YtjaabjehegcnaaaDoor
open Go.RowKit

theorem cdiv_le {n d x : Int} (hd : 0 < d) (h : n ≤ x * d) : cdiv n d ≤ x := by
  obtain ⟨_, _, _, h4⟩ := round_parts (n := n) hd
  have : d * (cdiv n d - 1) < d * x := by rw [Int.mul_comm d x]; omega
  have := mul_lt_cancel hd this
  omega
theorem le_fdiv {n d x : Int} (hd : 0 < d) (h : x * d ≤ n) : x ≤ n.fdiv d := by
  obtain ⟨_, h2, _, _⟩ := round_parts (n := n) hd
  have : d * x < d * (n.fdiv d + 1) := by rw [Int.mul_comm d x]; omega
  have := mul_lt_cancel hd this
  omega
theorem cdiv_up {n d : Int} (hd : 0 < d) : n ≤ cdiv n d * d := by rw [Int.mul_comm]; exact (round_parts hd).2.2.1
theorem fdiv_down {n d : Int} (hd : 0 < d) : n.fdiv d * d ≤ n := by rw [Int.mul_comm]; exact (round_parts hd).1
theorem cdiv_neg (n d : Int) : cdiv (-n) d = -(n.fdiv d) := by unfold cdiv; rw [Int.neg_neg]
theorem fdiv_neg' (n d : Int) : (-n).fdiv d = -(cdiv n d) := by unfold cdiv; omega

/-- What is found at k: nothing below the simplest Den, there the simplest ratio. -/
structure Found (a b c d n m : Int) : Prop where
  mk ::
  m0 : 0 < m
  before : ∀ k : Int, 0 < k → k < m → (c * k).fdiv d < cdiv (a * k) b
  there : cdiv (a * m) b ≤ (c * m).fdiv d
  which : (cdiv (a * m) b ≤ 0 ∧ 0 ≤ (c * m).fdiv d ∧ n = 0 ∧ m = 1) ∨ (0 < cdiv (a * m) b ∧ n = cdiv (a * m) b) ∨ (cdiv (a * m) b ≤ 0 ∧ (c * m).fdiv d < 0 ∧ n = (c * m).fdiv d)

theorem found_up {a b c d n m : Int} (b0 : 0 < b) (d0 : 0 < d) (s : Simple a b c d n m) : Found a b c d n m := by
  obtain ⟨m0, _⟩ := good_out s.good
  have h1 : cdiv (a * m) b ≤ n := cdiv_le b0 s.low
  have h2 : n ≤ (c * m).fdiv d := le_fdiv d0 s.high
  have h3 : n ≤ cdiv (a * m) b := by
    refine (s.least (cdiv (a * m) b) m m0 (cdiv_up b0) ?_).1
    have e : cdiv (a * m) b * d ≤ (c * m).fdiv d * d := Int.mul_le_mul_of_nonneg_right (by omega) (by omega)
    have := fdiv_down (n := c * m) d0
    omega
  have n0 := s.n0
  refine ⟨m0, fun k k0 hk => ?_, by omega, Or.inr (Or.inl ⟨by omega, by omega⟩)⟩
  refine Int.not_le.1 fun hc => ?_
  have e : cdiv (a * k) b * d ≤ (c * k).fdiv d * d := Int.mul_le_mul_of_nonneg_right hc (by omega)
  have := fdiv_down (n := c * k) d0
  have := (s.least (cdiv (a * k) b) k k0 (cdiv_up b0) (by omega)).2
  omega
theorem found_mid {a b c d : Int} (b0 : 0 < b) (d0 : 0 < d) (ha : a ≤ 0) (hc : 0 ≤ c) : Found a b c d 0 1 := by
  have h1 : cdiv (a * 1) b ≤ 0 := cdiv_le b0 (by omega)
  have h2 : 0 ≤ (c * 1).fdiv d := le_fdiv d0 (by omega)
  exact ⟨by omega, fun k k0 hk => by omega, by omega, Or.inl ⟨h1, h2, rfl, rfl⟩⟩
theorem found_down {a b c d n m : Int} (b0 : 0 < b) (d0 : 0 < d) (s : Simple (-c) d (-a) b n m) : Found a b c d (-n) m := by
  have f := found_up d0 b0 s
  have n0 := s.n0
  have e1 : ∀ k, cdiv (-c * k) d = -((c * k).fdiv d) := fun k => by rw [Int.neg_mul, cdiv_neg]
  have e2 : ∀ k, (-a * k).fdiv b = -(cdiv (a * k) b) := fun k => by rw [Int.neg_mul, fdiv_neg']
  obtain ⟨m0, hb, ht, hw⟩ := f
  rw [e1, e2] at ht
  rw [e1, e2] at hw
  refine ⟨m0, fun k k0 hk => ?_, by omega, ?_⟩
  · have := hb k k0 hk
    rw [e1, e2] at this
    omega
  · rcases hw with ⟨h1, h2, h3, h4⟩ | ⟨h1, h2⟩ | ⟨h1, h2, h3⟩
    · omega
    · exact Or.inr (Or.inr ⟨by omega, by omega, by omega⟩)
    · omega
theorem found_of {a b c d : Int} (h : smpB a b c d = true) : Found a b c d (smpN a b c d) (smpD a b c d) := by
  obtain ⟨h1, h2, h3⟩ := smpB_parts h
  have b0 := (good_out h1).1
  have d0 := (good_out h2).1
  unfold smpN smpD
  rw [if_pos h, if_pos h]
  by_cases hu : 0 < a
  · rw [if_pos hu, if_pos hu]
    exact found_up b0 d0 (btw_simple (fuelOf b d) a b c d (fits_up h1 h2 h3 hu) (fuel_ok b d))
  · rw [if_neg hu, if_neg hu]
    by_cases hm : 0 ≤ c
    · rw [if_pos hm, if_pos hm]
      exact found_mid b0 d0 (by omega) hm
    · rw [if_neg hm, if_neg hm]
      exact found_down b0 d0 (btw_simple (fuelOf d b) (-c) d (-a) b (fits_down h1 h2 h3 (by omega)) (fuel_ok d b))

/-- Numbers of 16 bits over Dens below 300. -/
def Small (n d : Int) : Prop := -32768 ≤ n ∧ n ≤ 32768 ∧ 0 ≤ d ∧ d < 300
theorem small_in {n d : Int} (h : Small n d) : I64 n ∧ I64 d := by unfold Small at h; unfold I64; omega
theorem small_smp {a b c d : Int} (h1 : Small a b) (h2 : Small c d) (g1 : goodB a b = true) (g2 : goodB c d = true) (h3 : rcm a b c d ≤ 0) : smpB a b c d = true := by
  have k3 : decide (rcm a b c d ≤ 0) = true := by simpa using h3
  unfold smpB
  rw [g1, g2, k3, fitB_iff.2 (show I64 (-a) by unfold Small at h1; unfold I64; omega), fitB_iff.2 (show I64 (-c) by unfold Small at h2; unfold I64; omega)]
  simp
theorem small_mk {n d : Int} (hn : -32768 ≤ n ∧ n ≤ 32767) (hd : -300 < d ∧ d < 300) : Small (mkN n d) (mkD n d) := by
  by_cases hB : mkB n d = true
  · have hb : d ≠ 0 ∧ I64 (mkP n d) ∧ I64 (mkQ n d) := Classical.byContradiction fun hx => by rw [(mk_no hx).2.2] at hB; cases hB
    obtain ⟨h0, h1, h2⟩ := hb
    obtain ⟨e1, e2, _⟩ := mk_yes h0 h1 h2
    have hg := good_out (mk_good hB)
    have g0 := gcd_pos (n := n) h0
    have b1 : (n / (n.gcd d : Int)).natAbs ≤ n.natAbs := by
      rw [Int.natAbs_ediv_of_dvd (Int.gcd_dvd_left n d)]; exact Nat.div_le_self _ _
    have b2 : (d / (n.gcd d : Int)).natAbs ≤ d.natAbs := by
      rw [Int.natAbs_ediv_of_dvd (Int.gcd_dvd_right n d)]; exact Nat.div_le_self _ _
    rw [e1, e2] at hg ⊢
    unfold mkP mkQ at *
    unfold Small
    split at hg <;> split <;> omega
  · obtain ⟨e1, e2⟩ : mkN n d = 0 ∧ mkD n d = 0 := by unfold mkN mkD; rw [if_neg hB, if_neg hB]; simp
    rw [e1, e2]; unfold Small; omega
end Go.Proofs.YtjaabjehegcnaaaDoor
