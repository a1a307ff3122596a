/-
  Plain mathematics for layer 1 (num): numbers of 128 bits as two halves, what has a place in 64 bits. Nothing of the program is read here.
-/
import Derived.WalkKit
import Derived.Lib.Mul64
import Derived.Laws.Bits64b
import Derived.Laws.Externs
import Derived.Lib.Hide
namespace Go.Proofs.Ytiighhcilgjebaa
open Go.RowKit

def hi64 (v : Int) : Int := v / 18446744073709551616
def lo64 (v : Int) : Int := v % 18446744073709551616
def fitB (v : Int) : Bool := decide (-9223372036854775808 ≤ v ∧ v ≤ 9223372036854775807)
def fit (v : Int) : Int := if fitB v = true then v else 0
def I64 (a : Int) : Prop := -9223372036854775808 ≤ a ∧ a ≤ 9223372036854775807
def W128 (v : Int) : Prop := -85070591730234615865843651857942052864 ≤ v ∧ v ≤ 85070591730234615865843651857942052864
/-- -1, 0 or 1. -/
def cmp3 (x y : Int) : Int := if x < y then -1 else if y < x then 1 else 0
def orI (p q : Int) : Int := if p = 0 then q else p

theorem fit_yes {v : Int} (h : I64 v) : fit v = v ∧ fitB v = true := by
  have e : fitB v = true := by unfold fitB; exact decide_eq_true h
  exact ⟨by unfold fit; rw [if_pos e], e⟩
theorem fit_no {v : Int} (h : ¬ I64 v) : fit v = 0 ∧ fitB v = false := by
  have e : fitB v = false := by unfold fitB; exact decide_eq_false h
  exact ⟨by unfold fit; rw [e]; simp, e⟩

theorem hi_lo_eq {x y : Int} (h1 : hi64 x = hi64 y) (h2 : lo64 x = lo64 y) : x = y := by unfold hi64 lo64 at *; omega
theorem lo_nonneg (x : Int) : 0 ≤ lo64 x := by unfold lo64; omega
theorem lo_lt (x : Int) : lo64 x < 18446744073709551616 := by unfold lo64; omega

theorem mul_bounds {a b : Int} (ha : I64 a) (hb : I64 b) : W128 (a * b) := by
  obtain ⟨a0, a1⟩ := ha; obtain ⟨b0, b1⟩ := hb
  have h1 : (9223372036854775808 + a) * (9223372036854775808 + b) ≥ 0 := Int.mul_nonneg (by omega) (by omega)
  have h2 : (9223372036854775808 - a) * (9223372036854775808 + b) ≥ 0 := Int.mul_nonneg (by omega) (by omega)
  have h3 : (9223372036854775808 + a) * (9223372036854775808 - b) ≥ 0 := Int.mul_nonneg (by omega) (by omega)
  have h4 : (9223372036854775808 - a) * (9223372036854775808 - b) ≥ 0 := Int.mul_nonneg (by omega) (by omega)
  simp only [Int.mul_add, Int.add_mul, Int.sub_mul, Int.mul_sub] at h1 h2 h3 h4
  unfold W128
  generalize a * b = p at *
  omega

theorem mul_lo (a b : Int) : lo64 (lo64 a * lo64 b) = lo64 (a * b) := by
  unfold lo64; exact (Int.mul_emod a b 18446744073709551616).symm

/-- The upper half of a product of two numbers, out of that of the two read as unsigned. -/
theorem mul_hi (a b : Int) (ha : I64 a) (hb : I64 b) :
    wrap64 (wrap64 (wrap64 (hi64 (lo64 a * lo64 b)) - (if a < 0 then b else 0)) - (if b < 0 then a else 0)) = hi64 (a * b) := by
  have hW := mul_bounds ha hb
  obtain ⟨a0, a1⟩ := ha; obtain ⟨b0, b1⟩ := hb
  have ea : lo64 a = a + (if a < 0 then 18446744073709551616 else 0) := by unfold lo64; split <;> omega
  have eb : lo64 b = b + (if b < 0 then 18446744073709551616 else 0) := by unfold lo64; split <;> omega
  rw [ea, eb]
  unfold W128 at hW
  unfold hi64 wrap64
  by_cases h1 : a < 0 <;> by_cases h2 : b < 0 <;> simp only [h1, h2, if_true, if_false, Int.add_mul, Int.mul_add, Int.add_zero] <;> generalize a * b = p at * <;> omega

theorem wrap_wrap (x : Int) : wrap64 (wrap64 x) = wrap64 x := by unfold wrap64; omega

theorem maskN (a : Nat) (ha : a < 18446744073709551616) : bits .and .u64 (a : Int) 4294967295 = ((a % 4294967296 : Nat) : Int) := by
  have h := bits_and_u64_nat a 4294967295 ha (by omega)
  have e : a &&& 4294967295 = a % 4294967296 := Nat.and_two_pow_sub_one_eq_mod a 32
  rw [e] at h
  exact h
theorem divN (a : Nat) : (a : Int) / 4294967296 = ((a / 4294967296 : Nat) : Int) := by omega
theorem mulN (a b : Nat) : (a : Int) * (b : Int) = ((a * b : Nat) : Int) := (Int.natCast_mul a b).symm
theorem addN (a b : Nat) : (a : Int) + (b : Int) = ((a + b : Nat) : Int) := (Int.natCast_add a b).symm
theorem wrapN (a : Nat) (ha : a < 18446744073709551616) : IntKind.u64.wrap (a : Int) = (a : Int) := by rw [IntKind.wrap_u64]; omega
theorem wrapM (a : Nat) : IntKind.u64.wrap (a : Int) = ((a % 18446744073709551616 : Nat) : Int) := by rw [IntKind.wrap_u64]; omega

theorem cmp_two (x y : Int) : orI (cmp3 (hi64 x) (hi64 y)) (cmp3 (lo64 x) (lo64 y)) = cmp3 x y := by
  unfold orI cmp3 hi64 lo64
  repeat' split
  all_goals omega

/-! ### what comes back -/
theorem ret_int {k : IntKind} {a b : Int} (h : a = b) : Ending.returned (.int k a) = .returned (.int k b) := by rw [h]

theorem on {a b c : World} (h1 : Below a.heap.size a b) (h2 : Below b.heap.size b c) : Below a.heap.size a c := h1.trans (h2.mono h1.size)
theorem cmp3_bd (x y : Int) : -1 ≤ cmp3 x y ∧ cmp3 x y ≤ 1 := by
  unfold cmp3; (repeat' split) <;> omega

/-! ### quotients -/
def divB (a b : Int) : Bool := decide (b ≠ 0 ∧ ¬ (a = -9223372036854775808 ∧ b = -1))
theorem divB_out {a b : Int} (h : divB a b = true) : b ≠ 0 ∧ ¬ (a = -9223372036854775808 ∧ b = -1) := of_decide_eq_true h
/-- The quotient, rounded up. -/
def cdiv (a b : Int) : Int := -((-a).fdiv b)

theorem tdiv_in {a b : Int} (h : divB a b = true) (ha : I64 a) : I64 (a.tdiv b) := by
  obtain ⟨h0, h1⟩ := divB_out h
  have e := Int.natAbs_tdiv a b
  have e2 : a.natAbs.div b.natAbs = a.natAbs / b.natAbs := rfl
  rw [e2] at e
  obtain ⟨a0, a1⟩ := ha
  have hb : 1 ≤ b.natAbs := by omega
  have le1 : a.natAbs / b.natAbs ≤ a.natAbs := Nat.div_le_self _ _
  by_cases hb1 : b.natAbs = 1
  · rcases (show b = 1 ∨ b = -1 by omega) with rfl | rfl
    · rw [Int.tdiv_one]; exact ⟨a0, a1⟩
    · rw [Int.tdiv_neg, Int.tdiv_one]; unfold I64; omega
  · have le2 : a.natAbs / b.natAbs ≤ a.natAbs / 2 := Nat.div_le_div_left (by omega) (by omega)
    unfold I64; omega
theorem wrap_in {x : Int} (h : I64 x) : wrap64 x = x := by obtain ⟨h0, h1⟩ := h; unfold wrap64; omega

theorem tmod_dvd {a b : Int} : a.tmod b = 0 ↔ b ∣ a := Int.dvd_iff_tmod_eq_zero.symm

/-- Go's own quotient is the floor, but where it is cut off and the signs differ. -/
theorem floor_same {a b : Int} (h : a.tmod b = 0 ∨ (a < 0 ↔ b < 0)) (_hb : b ≠ 0) : a.tdiv b = a.fdiv b := by
  rw [Int.fdiv_eq_tdiv]
  split
  · omega
  · rename_i hd
    have : a < 0 ↔ b < 0 := h.resolve_left (fun e => hd (tmod_dvd.1 e))
    split <;> split
    · omega
    · omega
    · rw [Int.sign_eq_one_of_pos (by omega)]; omega
    · rw [Int.sign_eq_neg_one_of_neg (by omega)]; omega
theorem floor_less {a b : Int} (h : a.tmod b ≠ 0) (h2 : ¬ (a < 0 ↔ b < 0)) (_hb : b ≠ 0) : a.tdiv b - 1 = a.fdiv b := by
  rw [Int.fdiv_eq_tdiv, if_neg (fun e => h (tmod_dvd.2 e))]
  split <;> split
  · omega
  · omega
  · rw [Int.sign_eq_one_of_pos (by omega)]
  · omega
theorem ceil_same {a b : Int} (h : a.tmod b = 0 ∨ ¬ (a < 0 ↔ b < 0)) (_hb : b ≠ 0) : a.tdiv b = cdiv a b := by
  unfold cdiv
  rw [Int.fdiv_eq_tdiv, Int.neg_tdiv]
  split
  · omega
  · rename_i hd
    have hn : a.tmod b ≠ 0 := fun e => hd (Int.dvd_neg.2 (tmod_dvd.1 e))
    have h2 := h.resolve_left hn
    have ha : a ≠ 0 := by intro e; subst e; simp at hn
    split <;> split
    · omega
    · omega
    · rw [Int.sign_eq_one_of_pos (by omega)]; omega
    · rw [Int.sign_eq_neg_one_of_neg (by omega)]; omega
theorem ceil_more {a b : Int} (h : a.tmod b ≠ 0) (h2 : a < 0 ↔ b < 0) (hb : b ≠ 0) : a.tdiv b + 1 = cdiv a b := by
  have hd : ¬ b ∣ -a := fun e => h (tmod_dvd.2 (Int.dvd_neg.1 e))
  have ha : a ≠ 0 := by intro e; subst e; simp at h
  unfold cdiv
  rw [Int.fdiv_eq_tdiv, Int.neg_tdiv, if_neg hd]
  split <;> split
  · omega
  · omega
  · rw [Int.sign_eq_one_of_pos (by omega)]; omega
  · omega
theorem tdiv_small {a b : Int} (h : a.tmod b ≠ 0) (hb : b ≠ 0) (ha : I64 a) : -4611686018427387904 ≤ a.tdiv b ∧ a.tdiv b ≤ 4611686018427387904 := by
  have e := Int.natAbs_tdiv a b
  have e2 : a.natAbs.div b.natAbs = a.natAbs / b.natAbs := rfl
  rw [e2] at e
  obtain ⟨a0, a1⟩ := ha
  have hb1 : b.natAbs ≠ 1 := by
    intro h1
    apply h
    rcases (show b = 1 ∨ b = -1 by omega) with rfl | rfl <;> simp
  have le2 : a.natAbs / b.natAbs ≤ a.natAbs / 2 := Nat.div_le_div_left (by omega) (by omega)
  omega

/-- What the Go text of Floor comes to, by the signs. -/
theorem floor_eq1 {a b : Int} (h : divB a b = true) (ha : I64 a) (h2 : a.tmod b = 0 ∨ (a < 0 ↔ b < 0)) : wrap64 (a.tdiv b) = a.fdiv b := by
  rw [wrap_in (tdiv_in h ha), floor_same h2 (divB_out h).1]
theorem floor_eq2 {a b : Int} (h : divB a b = true) (ha : I64 a) (h1 : a.tmod b ≠ 0) (h2 : ¬ (a < 0 ↔ b < 0)) : wrap64 (wrap64 (a.tdiv b) - 1) = a.fdiv b := by
  have hs := tdiv_small h1 (divB_out h).1 ha
  rw [wrap_in (tdiv_in h ha), wrap_in (by unfold I64; omega), floor_less h1 h2 (divB_out h).1]
theorem ceil_eq1 {a b : Int} (h : divB a b = true) (ha : I64 a) (h2 : a.tmod b = 0 ∨ ¬ (a < 0 ↔ b < 0)) : wrap64 (a.tdiv b) = cdiv a b := by
  rw [wrap_in (tdiv_in h ha), ceil_same h2 (divB_out h).1]
theorem ceil_eq2 {a b : Int} (h : divB a b = true) (ha : I64 a) (h1 : a.tmod b ≠ 0) (h2 : a < 0 ↔ b < 0) : wrap64 (wrap64 (a.tdiv b) + 1) = cdiv a b := by
  have hs := tdiv_small h1 (divB_out h).1 ha
  rw [wrap_in (tdiv_in h ha), wrap_in (by unfold I64; omega), ceil_more h1 h2 (divB_out h).1]
theorem fdiv_in {a b : Int} (h : divB a b = true) (ha : I64 a) : I64 (a.fdiv b) := by
  by_cases h1 : a.tmod b = 0
  · rw [← floor_same (Or.inl h1) (divB_out h).1]; exact tdiv_in h ha
  · by_cases h2 : a < 0 ↔ b < 0
    · rw [← floor_same (Or.inr h2) (divB_out h).1]; exact tdiv_in h ha
    · rw [← floor_less h1 h2 (divB_out h).1]; have := tdiv_small h1 (divB_out h).1 ha; unfold I64; omega
end Go.Proofs.Ytiighhcilgjebaa
