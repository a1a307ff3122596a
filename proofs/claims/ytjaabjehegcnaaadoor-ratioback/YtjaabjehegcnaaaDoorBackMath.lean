/-
  Plain mathematics for RatioBack: sums and products in any order; rounding; whole numbers.
-/
import Derived.Test.YtjaabjehegcnaaaDoorRatioMath2
namespace Go.Proofs.YtjaabjehegcnaaaDoor
open Go.RowKit

def I32 (a : Int) : Prop := -2147483648 ≤ a ∧ a ≤ 2147483647

theorem smX_turn (a b c d : Int) : smX c d b = smY b c d ∧ smY d a b = smX a b d ∧ smM d b = smM b d := by
  unfold smX smY smM
  rw [Int.gcd_comm d b]
  refine ⟨rfl, rfl, ?_⟩
  have g1 := gcd_mul_left (n := b) (d := d)
  have g2 := gcd_mul_right (n := b) (d := d)
  generalize (b.gcd d : Int) = g at *
  generalize hp : b / g = p at *
  generalize hq : d / g = q at *
  rw [← g1, ← g2, Int.mul_assoc, Int.mul_assoc, Int.mul_comm q p]
theorem sm_turn (a b c d : Int) : smN c d a b = smN a b c d ∧ smD c d a b = smD a b c d ∧ smB c d a b = smB a b c d := by
  obtain ⟨e1, e2, e3⟩ := smX_turn a b c d
  have hk : smOk c d a b = smOk a b c d := by
    unfold smOk
    rw [e1, e2, e3, Int.add_comm (smY b c d)]
    cases goodB a b <;> cases goodB c d <;> cases fitB (smX a b d) <;> cases fitB (smY b c d) <;> rfl
  unfold smN smD smB
  rw [hk, e1, e2, e3, Int.add_comm (smY b c d)]
  exact ⟨rfl, rfl, rfl⟩
theorem pd_turn (a b c d : Int) : pdN c d a b = pdN a b c d ∧ pdD c d a b = pdD a b c d ∧ pdOk c d a b = pdOk a b c d := by
  have e1 : prNum c d a b = prNum a b c d := by unfold prNum; rw [Int.mul_comm]
  have e2 : prDen c d a b = prDen a b c d := by unfold prDen; rw [Int.mul_comm]
  have hk : pdOk c d a b = pdOk a b c d := by
    unfold pdOk
    rw [e1, e2]
    cases goodB a b <;> cases goodB c d <;> rfl
  unfold pdN pdD
  rw [hk, e1, e2]
  exact ⟨rfl, rfl, rfl⟩
theorem rcm_turn (a b c d : Int) : rcm a b c d = - rcm c d a b := by
  unfold rcm
  by_cases h1 : goodB a b = true <;> by_cases h2 : goodB c d = true
  · rw [if_pos ⟨h1, h2⟩, if_pos ⟨h2, h1⟩]
    unfold cmp3
    (repeat' split) <;> omega
  · rw [if_neg (fun h => h2 h.2), if_neg (fun h => h2 h.1)]; rfl
  · rw [if_neg (fun h => h1 h.1), if_neg (fun h => h1 h.2)]; rfl
  · rw [if_neg (fun h => h1 h.1), if_neg (fun h => h1 h.2)]; rfl
theorem rcm_bd (a b c d : Int) : -1 ≤ rcm a b c d ∧ rcm a b c d ≤ 1 := by
  unfold rcm
  split
  · exact cmp3_bd _ _
  · omega

theorem good_one (n : Int) : goodB n 1 = true := good_in (by omega) (by simp)
theorem fmod_bd {n d : Int} (h : 0 < d) : 0 ≤ n.fmod d ∧ n.fmod d < d := by
  rw [Int.fmod_eq_emod_of_nonneg _ (by omega)]; exact ⟨Int.emod_nonneg _ (by omega), Int.emod_lt_of_pos _ h⟩
/-- Rounded down and up, by what is left. -/
theorem round_parts {n d : Int} (h : 0 < d) : d * n.fdiv d ≤ n ∧ n < d * (n.fdiv d + 1) ∧ n ≤ d * cdiv n d ∧ d * (cdiv n d - 1) < n := by
  have e1 := Int.mul_fdiv_add_fmod n d
  have b1 := fmod_bd (n := n) h
  have e2 := Int.mul_fdiv_add_fmod (-n) d
  have b2 := fmod_bd (n := -n) h
  have c1 : cdiv n d = -((-n).fdiv d) := rfl
  rw [c1, Int.mul_add, Int.mul_sub, Int.mul_neg]
  omega
theorem mul_lt_cancel {d x y : Int} (hd : 0 < d) (h : d * x < d * y) : x < y := Int.lt_of_mul_lt_mul_left h (by omega)
theorem round_all {n d : Int} (h : goodB n d = true) : n.fdiv d * d ≤ n ∧ n ≤ cdiv n d * d ∧ (n.fdiv d = cdiv n d ↔ d = 1) ∧ (n.fdiv d ≠ cdiv n d → cdiv n d = n.fdiv d + 1) := by
  obtain ⟨d0, g⟩ := good_out h
  obtain ⟨h1, h2, h3, h4⟩ := round_parts (n := n) d0
  have l1 : n.fdiv d ≤ cdiv n d := by
    have : d * (n.fdiv d) < d * (cdiv n d + 1) := by rw [Int.mul_add]; omega
    have := mul_lt_cancel d0 this
    omega
  have l2 : cdiv n d ≤ n.fdiv d + 1 := by
    have : d * (cdiv n d - 1) < d * (n.fdiv d + 1) := by omega
    have := mul_lt_cancel d0 this
    omega
  refine ⟨by rw [Int.mul_comm]; exact h1, by rw [Int.mul_comm]; exact h3, ⟨fun e => ?_, fun e => ?_⟩, fun hne => by omega⟩
  · rw [← e] at h3
    have hv : n = d * n.fdiv d := by omega
    have hd : d ∣ n := ⟨_, hv⟩
    have : (n.gcd d : Int) = d.natAbs := by rw [Int.gcd_eq_right_iff_dvd (by omega)|>.2 hd]; omega
    omega
  · subst e
    rw [Int.one_mul] at *
    omega
theorem round_in {n d : Int} (h : goodB n d = true) (hn : I64 n) : I64 (n.fdiv d) ∧ I64 (cdiv n d) :=
  ⟨fdiv_in (div_of_pos (good_out h).1) hn, cdiv_in (good_out h).1 hn⟩

theorem whole_sum {n m : Int} (hn : I32 n) (hm : I32 m) : smN n 1 m 1 = n + m ∧ smD n 1 m 1 = 1 ∧ smB n 1 m 1 = true := by
  unfold I32 at hn hm
  have hX : smX n 1 1 = n := by unfold smX; simp
  have hY : smY 1 m 1 = m := by unfold smY; simp
  have hM : smM 1 1 = 1 := by unfold smM; simp
  have hi : I64 (n + m) := by unfold I64; omega
  have hk : smOk n 1 m 1 = true := by
    unfold smOk
    rw [hX, hY, hM, good_one, good_one, fitB_iff.2 hi, fitB_iff.2 (show I64 n by unfold I64; omega), fitB_iff.2 (show I64 m by unfold I64; omega), fitB_iff.2 (show I64 1 by unfold I64; omega)]
    rfl
  obtain ⟨e1, e2, e3⟩ := sm_yes hk
  obtain ⟨f1, f2, f3⟩ := mk_self (good_one (n + m)) hi (by unfold I64; omega)
  rw [e1, e2, e3, hX, hY, hM]
  exact ⟨f1, f2, f3⟩
theorem mul32 {n m : Int} (hn : I32 n) (hm : I32 m) : -4611686018427387904 ≤ n * m ∧ n * m ≤ 4611686018427387904 := by
  unfold I32 at hn hm
  have h1 : (2147483648 + n) * (2147483648 + m) ≥ 0 := Int.mul_nonneg (by omega) (by omega)
  have h2 : (2147483648 - n) * (2147483648 + m) ≥ 0 := Int.mul_nonneg (by omega) (by omega)
  have h3 : (2147483648 + n) * (2147483648 - m) ≥ 0 := Int.mul_nonneg (by omega) (by omega)
  have h4 : (2147483648 - n) * (2147483648 - m) ≥ 0 := Int.mul_nonneg (by omega) (by omega)
  simp only [Int.mul_add, Int.add_mul, Int.sub_mul, Int.mul_sub] at h1 h2 h3 h4
  generalize n * m = p at *
  omega
theorem whole_pro {n m : Int} (hn : I32 n) (hm : I32 m) : pdN n 1 m 1 = n * m ∧ pdD n 1 m 1 = 1 ∧ pdOk n 1 m 1 = true := by
  have hb := mul32 hn hm
  have hX : prNum n 1 m 1 = n * m := by unfold prNum; simp
  have hM : prDen n 1 m 1 = 1 := by unfold prDen; simp
  have hi : I64 (n * m) := by unfold I64; omega
  have hk : pdOk n 1 m 1 = true := by
    unfold pdOk
    rw [hX, hM, good_one, good_one, fitB_iff.2 hi, fitB_iff.2 (show I64 1 by unfold I64; omega)]
    rfl
  obtain ⟨e1, e2⟩ := pd_yes hk
  rw [e1, e2, hX, hM]
  exact ⟨rfl, rfl, hk⟩
end Go.Proofs.YtjaabjehegcnaaaDoor
