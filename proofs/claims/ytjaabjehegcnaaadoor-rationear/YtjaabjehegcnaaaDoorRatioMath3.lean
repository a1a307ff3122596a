/-
  Plain mathematics for layer 2 (ratio), third part: differences, quotients; what a sum is worth.
-/
import Derived.Test.YtjaabjehegcnaaaDoorRatioMath2
namespace Go.Proofs.YtjaabjehegcnaaaDoor
open Go.RowKit

/-! ### differences and quotients -/
def sbOk (c : Int) : Bool := fitB (-c)
def sbN (a b c d : Int) : Int := if sbOk c = true then smN a b (-c) d else 0
def sbD (a b c d : Int) : Int := if sbOk c = true then smD a b (-c) d else 0
def sbB (a b c d : Int) : Bool := sbOk c && smB a b (-c) d
def quOk (c d : Int) : Bool := goodB c d && mkB d c
def quN (a b c d : Int) : Int := if quOk c d = true then pdN a b (mkN d c) (mkD d c) else 0
def quD (a b c d : Int) : Int := if quOk c d = true then pdD a b (mkN d c) (mkD d c) else 0
def quB (a b c d : Int) : Bool := quOk c d && pdOk a b (mkN d c) (mkD d c)
theorem sb_no {a b c d : Int} (h : sbOk c = false) : sbN a b c d = 0 ∧ sbD a b c d = 0 ∧ sbB a b c d = false := by unfold sbN sbD sbB; rw [h]; simp
theorem sb_yes {a b c d : Int} (h : sbOk c = true) : sbN a b c d = smN a b (-c) d ∧ sbD a b c d = smD a b (-c) d ∧ sbB a b c d = smB a b (-c) d := by unfold sbN sbD sbB; rw [h]; simp
theorem qu_no {a b c d : Int} (h : quOk c d = false) : quN a b c d = 0 ∧ quD a b c d = 0 ∧ quB a b c d = false := by unfold quN quD quB; rw [h]; simp
theorem qu_yes {a b c d : Int} (h : quOk c d = true) : quN a b c d = pdN a b (mkN d c) (mkD d c) ∧ quD a b c d = pdD a b (mkN d c) (mkD d c) ∧ quB a b c d = pdOk a b (mkN d c) (mkD d c) := by unfold quN quD quB; rw [h]; simp
theorem good_neg (c d : Int) : goodB (-c) d = goodB c d := by unfold goodB; rw [Int.neg_gcd]
theorem sb_bad {a b c d : Int} (h : goodB c d = false) : sbN a b c d = 0 ∧ sbD a b c d = 0 ∧ sbB a b c d = false := by
  by_cases hk : sbOk c = true
  · obtain ⟨e1, e2, e3⟩ := sb_yes (a := a) (b := b) (d := d) hk
    obtain ⟨f1, f2, f3⟩ := sm_no (smOk_bad2 (a := a) (b := b) (c := -c) (d := d) (by rw [good_neg]; exact h))
    rw [e1, e2, e3]
    exact ⟨f1, f2, f3⟩
  · exact sb_no (by simpa using hk)

/-! ### what a sum is worth -/
theorem mk_val {n d : Int} (h : mkB n d = true) : mkN n d * d = n * mkD n d := by
  have hb : d ≠ 0 ∧ I64 (mkP n d) ∧ I64 (mkQ n d) := Classical.byContradiction fun hx => by rw [(mk_no hx).2.2] at h; cases h
  obtain ⟨h0, h1, h2⟩ := hb
  obtain ⟨e1, e2, _⟩ := mk_yes h0 h1 h2
  rw [e1, e2]
  have g1 := gcd_mul_left (n := n) (d := d)
  have g2 := gcd_mul_right (n := n) (d := d)
  unfold mkP mkQ
  generalize (n.gcd d : Int) = g at *
  generalize n / g = p at *
  generalize d / g = q at *
  subst g1 g2
  split
  · rw [Int.neg_mul, Int.mul_neg, Int.mul_left_comm, Int.mul_assoc]
  · simp [Int.mul_comm, Int.mul_left_comm]
theorem smB_parts {a b c d : Int} (h : smB a b c d = true) : goodB a b = true ∧ goodB c d = true ∧ smOk a b c d = true ∧ mkB (smX a b d + smY b c d) (smM b d) = true := by
  unfold smB at h
  simp only [Bool.and_eq_true] at h
  have hk := h.1
  unfold smOk at hk
  simp only [Bool.and_eq_true] at hk
  exact ⟨hk.1.1, hk.1.2, h.1, h.2⟩
theorem sm_good {a b c d : Int} (h : smB a b c d = true) : goodB (smN a b c d) (smD a b c d) = true := by
  obtain ⟨_, _, hk, hm⟩ := smB_parts h
  obtain ⟨e1, e2, _⟩ := sm_yes hk
  rw [e1, e2]
  exact mk_good hm
theorem sm_in {a b c d : Int} (h : smB a b c d = true) : I64 (smN a b c d) ∧ I64 (smD a b c d) := by
  obtain ⟨_, _, hk, hm⟩ := smB_parts h
  obtain ⟨e1, e2, _⟩ := sm_yes hk
  rw [e1, e2]
  exact mk_in _ _
theorem sm_val {a b c d : Int} (h : smB a b c d = true) : smN a b c d * (b * d) = (a * d + c * b) * smD a b c d := by
  obtain ⟨_, _, hk, hm⟩ := smB_parts h
  obtain ⟨e1, e2, _⟩ := sm_yes hk
  have v := mk_val hm
  rw [e1, e2]
  generalize mkN (smX a b d + smY b c d) (smM b d) = N at *
  generalize mkD (smX a b d + smY b c d) (smM b d) = D at *
  have g1 := gcd_mul_left (n := b) (d := d)
  have g2 := gcd_mul_right (n := b) (d := d)
  have x1 : (smX a b d + smY b c d) * (b.gcd d : Int) = a * d + c * b := by
    unfold smX smY
    rw [Int.add_mul, Int.mul_assoc, Int.mul_assoc, Int.mul_comm _ (b.gcd d : Int), Int.mul_comm _ (b.gcd d : Int), g1, g2]
  have x2 : smM b d * (b.gcd d : Int) = b * d := by
    unfold smM
    rw [Int.mul_assoc, Int.mul_comm _ (b.gcd d : Int), g2]
  rw [← x1, ← x2, ← Int.mul_assoc, v, Int.mul_assoc, Int.mul_comm D, Int.mul_assoc]
theorem good_same {a b c d : Int} (h1 : goodB a b = true) (h2 : goodB c d = true) (h : a * d = c * b) : a = c ∧ b = d := by
  obtain ⟨b0, g1⟩ := good_out h1
  obtain ⟨d0, g2⟩ := good_out h2
  have n1 : Nat.Coprime b.natAbs a.natAbs := by rw [Int.gcd_eq_natAbs_gcd_natAbs] at g1; exact Nat.Coprime.symm g1
  have n2 : Nat.Coprime d.natAbs c.natAbs := by rw [Int.gcd_eq_natAbs_gcd_natAbs] at g2; exact Nat.Coprime.symm g2
  have hn : a.natAbs * d.natAbs = c.natAbs * b.natAbs := by rw [← Int.natAbs_mul, ← Int.natAbs_mul, h]
  have d1 : b.natAbs ∣ d.natAbs := Nat.Coprime.dvd_of_dvd_mul_left n1 ⟨c.natAbs, by rw [hn, Nat.mul_comm]⟩
  have d2 : d.natAbs ∣ b.natAbs := Nat.Coprime.dvd_of_dvd_mul_left n2 ⟨a.natAbs, by rw [← hn, Nat.mul_comm]⟩
  have e : b.natAbs = d.natAbs := Nat.dvd_antisymm d1 d2
  have e2 : b = d := by omega
  subst e2
  exact ⟨Int.eq_of_mul_eq_mul_right (by omega) h, rfl⟩
/-- What is taken away is added again. -/
theorem sb_back {a b c d : Int} (h1 : sbB a b c d = true) (h2 : smB (sbN a b c d) (sbD a b c d) c d = true) : smN (sbN a b c d) (sbD a b c d) c d = a ∧ smD (sbN a b c d) (sbD a b c d) c d = b := by
  have hk : sbOk c = true := by unfold sbB at h1; simp only [Bool.and_eq_true] at h1; exact h1.1
  obtain ⟨e1, e2, e3⟩ := sb_yes (a := a) (b := b) (d := d) hk
  rw [e3] at h1
  rw [e1, e2] at h2 ⊢
  have v1 := sm_val h1
  have v2 := sm_val h2
  have ga := (smB_parts h1).1
  have gd := (smB_parts h2).2.1
  have gN := sm_good h1
  have gM := sm_good h2
  generalize smN a b (-c) d = N at *
  generalize smD a b (-c) d = D at *
  generalize smN N D c d = P at *
  generalize smD N D c d = Q at *
  obtain ⟨b0, _⟩ := good_out ga
  obtain ⟨d0, _⟩ := good_out gd
  obtain ⟨D0, _⟩ := good_out gN
  have hne : D * d ≠ 0 := by
    have := Int.mul_pos D0 d0
    omega
  refine good_same gM ga ?_
  have key : (P * b) * (D * d) = (a * Q) * (D * d) := by
    have e1 : (P * b) * (D * d) = (P * (D * d)) * b := by rw [Int.mul_assoc, Int.mul_comm b, ← Int.mul_assoc]
    rw [e1, v2]
    have e2 : (N * d + c * D) * Q * b = (N * (b * d) + c * D * b) * Q := by
      rw [Int.mul_assoc, Int.mul_comm Q b, ← Int.mul_assoc, Int.add_mul, Int.mul_assoc N d b, Int.mul_comm d b]
    rw [e2, v1]
    have e3 : (a * d + -c * b) * D + c * D * b = a * d * D := by
      rw [Int.add_mul, Int.neg_mul, Int.neg_mul, Int.mul_assoc c b D, Int.mul_assoc c D b, Int.mul_comm b D]
      omega
    rw [e3]
    rw [Int.mul_assoc a d D, Int.mul_assoc a (d * D) Q, Int.mul_assoc a Q (D * d), Int.mul_comm d D, Int.mul_comm (D * d) Q]
  exact Int.eq_of_mul_eq_mul_right hne key
end Go.Proofs.YtjaabjehegcnaaaDoor
