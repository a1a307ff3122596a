/-
  Plain mathematics for RatioNear: where the simplest ratio lies; that it is turned round with both.
-/
import Derived.Test.YtjaabjehegcnaaaDoorSimplestWalks
namespace Go.Proofs.YtjaabjehegcnaaaDoor
open Go.RowKit

theorem rcm_of_le {a b c d : Int} (h1 : goodB a b = true) (h2 : goodB c d = true) (h : a * d ≤ c * b) : rcm a b c d ≤ 0 := by
  unfold rcm; rw [if_pos ⟨h1, h2⟩]; unfold cmp3; (repeat' split) <;> omega
theorem smpB_parts {a b c d : Int} (h : smpB a b c d = true) : goodB a b = true ∧ goodB c d = true ∧ rcm a b c d ≤ 0 := by
  unfold smpB at h
  simp only [Bool.and_eq_true, decide_eq_true_eq] at h
  exact ⟨h.1.1.1, h.1.1.2, h.1.2⟩

/-- Where the simplest ratio lies. -/
structure Near (a b c d n m : Int) : Prop where
  mk ::
  good : goodB n m = true
  low : a * m ≤ n * b
  high : n * d ≤ c * m
  den1 : m ≤ b
  den2 : m ≤ d

theorem near_of {a b c d : Int} (h : smpB a b c d = true) : Near a b c d (smpN a b c d) (smpD a b c d) := by
  obtain ⟨h1, h2, h3⟩ := smpB_parts h
  have hl := rcm_le h1 h2 h3
  have b0 := (good_out h1).1
  have d0 := (good_out h2).1
  unfold smpN smpD
  rw [if_pos h, if_pos h]
  by_cases hu : 0 < a
  · rw [if_pos hu, if_pos hu]
    have s := btw_simple (fuelOf b d) a b c d (fits_up h1 h2 h3 hu) (fuel_ok b d)
    exact ⟨s.good, s.low, s.high, (s.least a b b0 (Int.le_refl _) hl).2, (s.least c d d0 hl (Int.le_refl _)).2⟩
  · rw [if_neg hu, if_neg hu]
    by_cases hm : 0 ≤ c
    · rw [if_pos hm, if_pos hm]
      exact ⟨good_one' 0, by omega, by omega, by omega, by omega⟩
    · rw [if_neg hm, if_neg hm]
      have hf := fits_down h1 h2 h3 (by omega)
      have s := btw_simple (fuelOf d b) (-c) d (-a) b hf (fuel_ok d b)
      have e1 := s.low
      have e2 := s.high
      rw [Int.neg_mul] at e1 e2
      refine ⟨by rw [good_neg]; exact s.good, by rw [Int.neg_mul]; omega, by rw [Int.neg_mul]; omega, (s.least (-a) b b0 hf.le (Int.le_refl _)).2, (s.least (-c) d d0 (Int.le_refl _) hf.le).2⟩
where good_one' (n : Int) : goodB n 1 = true := good_in (by omega) (by simp)

theorem near_same {a b n m : Int} (hg : goodB a b = true) (h : Near a b a b n m) : n = a ∧ m = b := by
  obtain ⟨e1, e2⟩ := good_same h.good hg (by have := h.low; have := h.high; omega)
  exact ⟨e1, e2⟩

theorem near_in {a b c d : Int} (ha : I64 a) (hb : I64 b) (hd : I64 d) : I64 (smpN a b c d) ∧ I64 (smpD a b c d) ∧ (I64 (-a) → I64 (-c) → I64 (-smpN a b c d)) := by
  by_cases h : smpB a b c d = true
  · obtain ⟨h1, h2, h3⟩ := smpB_parts h
    unfold smpN smpD
    rw [if_pos h, if_pos h]
    by_cases hu : 0 < a
    · rw [if_pos hu, if_pos hu]
      have hf := fits_up h1 h2 h3 hu
      obtain ⟨i1, i2, _, _⟩ := btw_in hf (fuel_ok b d) ha hb
      have n0 := (btw_simple (fuelOf b d) a b c d hf (fuel_ok b d)).n0
      refine ⟨i1, i2, fun _ _ => ?_⟩
      unfold I64 at *; omega
    · rw [if_neg hu, if_neg hu]
      by_cases hm : 0 ≤ c
      · rw [if_pos hm, if_pos hm]; unfold I64; omega
      · rw [if_neg hm, if_neg hm]
        have hf := fits_down h1 h2 h3 (by omega)
        have hk : fitB (-a) = true ∧ fitB (-c) = true := by
          unfold smpB at h
          have e1 : decide (0 < a) = false := by simp; omega
          have e2 : decide (0 ≤ c) = false := by simp; omega
          rw [e1, e2] at h
          simp only [Bool.and_eq_true, Bool.false_or] at h
          exact h.2
        obtain ⟨i1, i2, _, _⟩ := btw_in hf (fuel_ok d b) (fitB_iff.1 hk.2) hd
        have n0 := (btw_simple (fuelOf d b) (-c) d (-a) b hf (fuel_ok d b)).n0
        refine ⟨?_, i2, fun _ _ => ?_⟩
        · unfold I64 at *; omega
        · rw [Int.neg_neg]; exact i1
  · obtain ⟨e1, e2⟩ := smp_no (show smpB a b c d = false by simpa using h)
    rw [e1, e2]; unfold I64; omega

theorem near_none {a b c d : Int} (ha : I64 a) (hc : I64 c) (h1 : goodB a b = true) (h2 : goodB c d = true) (h3 : rcm a b c d ≤ 0) (h : smpB a b c d = false) : c < 0 ∧ (a = -9223372036854775808 ∨ c = -9223372036854775808) := by
  have k3 : decide (rcm a b c d ≤ 0) = true := by simpa using h3
  unfold smpB at h
  rw [h1, h2, k3] at h
  by_cases hu : 0 < a
  · simp [hu] at h
  · by_cases hm : 0 ≤ c
    · simp [hm] at h
    · refine ⟨by omega, Classical.byContradiction fun hx => ?_⟩
      have e1 : fitB (-a) = true := fitB_iff.2 (by unfold I64 at *; omega)
      have e2 : fitB (-c) = true := fitB_iff.2 (by unfold I64 at *; omega)
      rw [e1, e2] at h
      simp at h

theorem near_turn {a b c d : Int} (ha : I64 a) (hc : I64 c) (h : smpB a b c d = true) : smpB (-c) d (-a) b = true ∧ smpN (-c) d (-a) b = -smpN a b c d ∧ smpD (-c) d (-a) b = smpD a b c d := by
  obtain ⟨h1, h2, h3⟩ := smpB_parts h
  have hl := rcm_le h1 h2 h3
  have b0 := (good_out h1).1
  have d0 := (good_out h2).1
  have g1 : goodB (-c) d = true := by rw [good_neg]; exact h2
  have g2 : goodB (-a) b = true := by rw [good_neg]; exact h1
  have r3 : rcm (-c) d (-a) b ≤ 0 := rcm_of_le g1 g2 (by rw [Int.neg_mul, Int.neg_mul]; omega)
  have k3 : decide (rcm (-c) d (-a) b ≤ 0) = true := by simpa using r3
  have f1 : fitB (- -c) = true := fitB_iff.2 (by rw [Int.neg_neg]; exact hc)
  have f2 : fitB (- -a) = true := fitB_iff.2 (by rw [Int.neg_neg]; exact ha)
  have hB : smpB (-c) d (-a) b = true := by
    unfold smpB; rw [g1, g2, k3, f1, f2]; simp
  refine ⟨hB, ?_⟩
  unfold smpN smpD
  rw [if_pos hB, if_pos h, if_pos hB, if_pos h]
  by_cases hu : 0 < a
  · have hc0 := (fits_up h1 h2 h3 hu).b0
    rw [if_neg (show ¬ 0 < -c by omega), if_neg (show ¬ 0 ≤ -a by omega), if_pos hu, if_neg (show ¬ 0 < -c by omega), if_neg (show ¬ 0 ≤ -a by omega), if_pos hu, Int.neg_neg, Int.neg_neg]
    exact ⟨rfl, rfl⟩
  · by_cases hm : 0 ≤ c
    · rw [if_neg (show ¬ 0 < -c by omega), if_pos (show 0 ≤ -a by omega), if_neg hu, if_pos hm, if_neg (show ¬ 0 < -c by omega), if_pos (show 0 ≤ -a by omega), if_neg hu, if_pos hm]
      exact ⟨rfl, rfl⟩
    · rw [if_pos (show 0 < -c by omega), if_neg hu, if_neg hm, if_pos (show 0 < -c by omega), if_neg hu, if_neg hm, Int.neg_neg]
      exact ⟨rfl, rfl⟩
end Go.Proofs.YtjaabjehegcnaaaDoor
