/-
  Plain mathematics of math/bits.OnesCount64 (by halves, quarters, bytes), TrailingZeros64, Len64. Nothing of the program is read here.
-/
import Derived.Test.YtooehfjappckmaaDoorBitMath
namespace Go.Proofs.YtooehfjappckmaaDoor
open Go.RowKit

theorem and_byte (A B C D : Nat) (hA : A < 256) (hC : C < 256) : (A + 256 * B) &&& (C + 256 * D) = (A &&& C) + 256 * (B &&& D) := by
  have h1 : ((A + 256 * B) &&& (C + 256 * D)) % 2 ^ 8 = A &&& C := by
    rw [Nat.and_mod_two_pow]
    congr 1 <;> omega
  have h2 : ((A + 256 * B) &&& (C + 256 * D)) / 2 ^ 8 = B &&& D := by
    rw [Nat.and_div_two_pow]
    congr 1 <;> omega
  omega

def S1 (m x : Nat) : Nat := (x / 2 &&& m) + (x &&& m)
def S2 (m x : Nat) : Nat := (x / 4 &&& m) + (x &&& m)
def S4 (m x : Nat) : Nat := (x / 16 + x) &&& m
/-- b in each of k bytes. -/
def rep8 (b : Nat) : Nat → Nat
  | 0 => 0
  | k + 1 => b + 256 * rep8 b k

theorem s1_a : ∀ a : Fin 256, S1 85 a.val < 256 ∧ (a.val / 2 + 128) &&& 85 = a.val / 2 &&& 85 := by decide +kernel
theorem s2_a : ∀ a : Fin 256, S2 51 a.val ≤ 102 ∧ S2 51 a.val % 16 ≤ 6 ∧ ∀ e : Fin 4, (a.val / 4 + 64 * e.val) &&& 51 = a.val / 4 &&& 51 := by decide +kernel
theorem s4_a : ∀ a : Fin 103, ∀ e : Fin 7, (a.val + a.val / 16 + 16 * e.val) &&& 15 = S4 15 a.val := by decide +kernel
/-- How many of a byte's bits. -/
def pc8 (a : Nat) : Nat := S4 15 (S2 51 (S1 85 a))
theorem pc8_a : ∀ a : Fin 256, pc8 a.val = cnt (a.val).testBit 8 := by decide +kernel

theorem S1_step (k a y : Nat) (ha : a < 256) : S1 (rep8 85 (k + 1)) (a + 256 * y) = S1 85 a + 256 * S1 (rep8 85 k) y := by
  obtain ⟨_, h2⟩ := s1_a ⟨a, ha⟩
  simp only at h2
  unfold S1
  rw [rep8, and_byte a y 85 _ ha (by omega)]
  have e : (a + 256 * y) / 2 = (a / 2 + 128 * (y % 2)) + 256 * (y / 2) := by omega
  rw [e, and_byte _ _ 85 _ (by omega) (by omega)]
  have e2 : (a / 2 + 128 * (y % 2)) &&& 85 = a / 2 &&& 85 := by
    rcases Nat.mod_two_eq_zero_or_one y with h | h <;> rw [h]
    · rw [Nat.mul_zero, Nat.add_zero]
    · exact h2
  rw [e2]; omega
theorem S2_step (k a y : Nat) (ha : a < 256) : S2 (rep8 51 (k + 1)) (a + 256 * y) = S2 51 a + 256 * S2 (rep8 51 k) y := by
  obtain ⟨_, _, h2⟩ := s2_a ⟨a, ha⟩
  have h3 := h2 ⟨y % 4, by omega⟩
  simp only at h3
  unfold S2
  rw [rep8, and_byte a y 51 _ ha (by omega)]
  have e : (a + 256 * y) / 4 = (a / 4 + 64 * (y % 4)) + 256 * (y / 4) := by omega
  rw [e, and_byte _ _ 51 _ (by omega) (by omega), h3]
  omega
theorem S2_low (k z : Nat) : S2 (rep8 51 k) z % 16 ≤ 6 := by
  cases k with
  | zero => simp [rep8, S2]
  | succ k =>
    have := S2_step k (z % 256) (z / 256) (by omega)
    rw [show z % 256 + 256 * (z / 256) = z by omega] at this
    obtain ⟨_, h1, _⟩ := s2_a ⟨z % 256, by omega⟩
    simp only at h1
    rw [this]; omega
theorem S4_step (k a y : Nat) (ha : a ≤ 102) (hy : y % 16 ≤ 6) : S4 (rep8 15 (k + 1)) (a + 256 * y) = S4 15 a + 256 * S4 (rep8 15 k) y := by
  have h := s4_a ⟨a, by omega⟩ ⟨y % 16, by omega⟩
  simp only at h
  unfold S4 at *
  rw [rep8]
  have e : (a + 256 * y) / 16 + (a + 256 * y) = (a + a / 16 + 16 * (y % 16)) + 256 * (y / 16 + y) := by omega
  rw [e, and_byte _ _ 15 _ (by omega) (by omega), h]
/-- The counts of k bytes, each in a byte. -/
def packed : Nat → Nat → Nat
  | 0, _ => 0
  | k + 1, x => pc8 (x % 256) + 256 * packed k (x / 256)
theorem packed_eq (k : Nat) : ∀ x, S4 (rep8 15 k) (S2 (rep8 51 k) (S1 (rep8 85 k) x)) = packed k x := by
  induction k with
  | zero => intro x; simp [rep8, packed, S4]
  | succ k ih =>
    intro x
    have e1 := S1_step k (x % 256) (x / 256) (by omega)
    rw [show x % 256 + 256 * (x / 256) = x by omega] at e1
    rw [e1, S2_step k _ _ (s1_a ⟨x % 256, by omega⟩).1, S4_step k _ _ (s2_a ⟨S1 85 (x % 256), (s1_a ⟨x % 256, by omega⟩).1⟩).1 (S2_low k _), ih, packed]
    rfl
theorem bits_split (k x : Nat) : cnt x.testBit (8 * (k + 1)) = cnt (x % 256).testBit 8 + cnt (x / 256).testBit (8 * k) := by
  rw [show 8 * (k + 1) = 8 + 8 * k by omega, cnt_add]
  congr 1
  · refine cnt_congr fun j hj => ?_
    rw [show (256 : Nat) = 2 ^ 8 from rfl, Nat.testBit_mod_two_pow]; simp [hj]
  · refine cnt_congr fun j _ => ?_
    rw [show (256 : Nat) = 2 ^ 8 from rfl, Nat.testBit_div_two_pow, Nat.add_comm]
theorem pc8_le (a : Nat) (h : a < 256) : pc8 a = cnt a.testBit 8 ∧ pc8 a ≤ 8 := by
  have h1 := pc8_a ⟨a, h⟩
  simp only at h1
  exact ⟨h1, by rw [h1]; exact cnt_le _ _⟩

/-- The bytes' counts added up. -/
theorem pop_sum (x x3 x4 x5 x6 : Nat) (h3 : x3 = packed 8 x) (h4 : x4 = x3 + x3 / 256) (h5 : x5 = x4 + x4 / 65536) (h6 : x6 = x5 + x5 / 4294967296) :
    x4 < 18446744073709551616 ∧ x5 < 18446744073709551616 ∧ x6 < 9223372036854775808 ∧ x6 % 128 = cnt x.testBit 64 := by
  rw [show (64 : Nat) = 8 * (7 + 1) from rfl, bits_split, show (7 : Nat) = 6 + 1 from rfl, bits_split, show (6 : Nat) = 5 + 1 from rfl, bits_split, show (5 : Nat) = 4 + 1 from rfl, bits_split, show (4 : Nat) = 3 + 1 from rfl, bits_split,
    show (3 : Nat) = 2 + 1 from rfl, bits_split, show (2 : Nat) = 1 + 1 from rfl, bits_split, show (1 : Nat) = 0 + 1 from rfl, bits_split]
  simp only [packed] at h3
  have g : ∀ y, cnt (y % 256).testBit 8 = pc8 (y % 256) ∧ pc8 (y % 256) ≤ 8 := fun y => ⟨(pc8_le _ (by omega)).1.symm, (pc8_le _ (by omega)).2⟩
  have z : ∀ f, cnt f (8 * 0) = 0 := fun f => rfl
  rw [z]
  simp only [(g _).1]
  have b0 := (g x).2
  have b1 := (g (x / 256)).2
  have b2 := (g (x / 256 / 256)).2
  have b3 := (g (x / 256 / 256 / 256)).2
  have b4 := (g (x / 256 / 256 / 256 / 256)).2
  have b5 := (g (x / 256 / 256 / 256 / 256 / 256)).2
  have b6 := (g (x / 256 / 256 / 256 / 256 / 256 / 256)).2
  have b7 := (g (x / 256 / 256 / 256 / 256 / 256 / 256 / 256)).2
  generalize pc8 (x % 256) = c0 at *
  generalize pc8 (x / 256 % 256) = c1 at *
  generalize pc8 (x / 256 / 256 % 256) = c2 at *
  generalize pc8 (x / 256 / 256 / 256 % 256) = c3 at *
  generalize pc8 (x / 256 / 256 / 256 / 256 % 256) = c4 at *
  generalize pc8 (x / 256 / 256 / 256 / 256 / 256 % 256) = c5 at *
  generalize pc8 (x / 256 / 256 / 256 / 256 / 256 / 256 % 256) = c6 at *
  generalize pc8 (x / 256 / 256 / 256 / 256 / 256 / 256 / 256 % 256) = c7 at *
  have e3 : x3 / 256 = c1 + 256 * (c2 + 256 * (c3 + 256 * (c4 + 256 * (c5 + 256 * (c6 + 256 * c7))))) := by omega
  have e4 : x4 / 65536 = (c2 + c3) + 256 * ((c3 + c4) + 256 * ((c4 + c5) + 256 * ((c5 + c6) + 256 * ((c6 + c7) + 256 * c7)))) := by omega
  have e5 : x5 / 4294967296 = (c4 + c5 + c6 + c7) + 256 * ((c5 + c6 + c7) + 256 * ((c6 + c7) + 256 * c7)) := by omega
  clear g z
  refine ⟨by omega, by omega, by omega, by omega⟩

/-- The steps of OnesCount64. -/
theorem pop_steps (x x1 x2 x3 x4 x5 x6 : Nat) (h1 : x1 = (x / 2 &&& 6148914691236517205) + (x &&& 6148914691236517205)) (h2 : x2 = (x1 / 4 &&& 3689348814741910323) + (x1 &&& 3689348814741910323))
    (h3 : x3 = (x2 / 16 + x2) &&& 1085102592571150095) (h4 : x4 = x3 + x3 / 256) (h5 : x5 = x4 + x4 / 65536) (h6 : x6 = x5 + x5 / 4294967296) :
    x1 < 18446744073709551616 ∧ x2 / 16 + x2 < 18446744073709551616 ∧ x4 < 18446744073709551616 ∧ x5 < 18446744073709551616 ∧ x6 < 9223372036854775808 ∧ x6 % 128 = cnt x.testBit 64 := by
  have k1 : (6148914691236517205 : Nat) = rep8 85 8 := by decide
  have k2 : (3689348814741910323 : Nat) = rep8 51 8 := by decide
  have k3 : (1085102592571150095 : Nat) = rep8 15 8 := by decide
  have a1 : (x / 2 &&& 6148914691236517205) ≤ 6148914691236517205 := Nat.and_le_right
  have a2 : (x &&& 6148914691236517205) ≤ 6148914691236517205 := Nat.and_le_right
  have a3 : (x1 / 4 &&& 3689348814741910323) ≤ 3689348814741910323 := Nat.and_le_right
  have a4 : (x1 &&& 3689348814741910323) ≤ 3689348814741910323 := Nat.and_le_right
  have e3 : x3 = packed 8 x := by
    rw [← packed_eq 8 x, ← k1, ← k2, ← k3]
    unfold S4 S2 S1
    rw [← h1, ← h2, ← h3]
  exact ⟨by omega, by omega, pop_sum x x3 x4 x5 x6 e3 h4 h5 h6⟩

theorem and127 (a : Nat) (h : a < 9223372036854775808) : bits .and .i64 (a : Int) 127 = ((a % 128 : Nat) : Int) := by
  have h1 : (BitVec.ofInt 64 (a : Int)).toNat = a := by
    rw [BitVec.ofInt_natCast, BitVec.toNat_ofNat]; exact Nat.mod_eq_of_lt (by omega)
  have h2 : (BitVec.ofInt 64 (127 : Int)).toNat = 127 := by decide
  have h3 : a &&& 127 = a % 128 := Nat.and_two_pow_sub_one_eq_mod a 7
  show IntKind.i64.wrap ((BitVec.ofInt 64 (a : Int) &&& BitVec.ofInt 64 (127 : Int)).toNat : Int) = _
  rw [BitVec.toNat_and, h1, h2, h3, IntKind.wrap_i64]
  omega

/-- TrailingZeros64. -/
theorem ctz_is {x : Nat} (h0 : x ≠ 0) (h : x < 18446744073709551616) : Lib.ctz 64 x < 64 ∧ x.testBit (Lib.ctz 64 x) = true ∧ ∀ j, j < Lib.ctz 64 x → x.testBit j = false := by
  obtain ⟨m, h1, h2⟩ := Lib.ctzFrom_spec 64 x (by omega) h
  have e : Lib.ctz 64 x = Lib.ctzFrom 64 x := by unfold Lib.ctz; rw [if_neg h0]
  rw [e]
  generalize Lib.ctzFrom 64 x = c at *
  subst h1
  refine ⟨h2, ?_, fun j hj => ?_⟩
  · rw [Nat.testBit_two_pow_mul]; simp
  · rw [Nat.testBit_two_pow_mul]; simp; omega

/-- Len64. -/
theorem bitLenAux_is : ∀ (f x : Nat), x < 2 ^ f → x < 2 ^ Lib.bitLenAux f x ∧ (x ≠ 0 → 1 ≤ Lib.bitLenAux f x ∧ 2 ^ (Lib.bitLenAux f x - 1) ≤ x) := by
  intro f
  induction f with
  | zero => intro x h; exact ⟨by simpa [Lib.bitLenAux] using h, fun h0 => by simp at h; omega⟩
  | succ f ih =>
    intro x h
    rw [Lib.bitLenAux]
    by_cases h0 : x = 0
    · rw [if_pos h0, h0]; simp
    · rw [if_neg h0]
      obtain ⟨h1, h2⟩ := ih (x / 2) (by rw [Nat.pow_succ] at h; omega)
      have z : x / 2 = 0 → Lib.bitLenAux f (x / 2) = 0 := by intro e; rw [e]; cases f <;> simp [Lib.bitLenAux]
      generalize Lib.bitLenAux f (x / 2) = L at *
      refine ⟨by rw [Nat.pow_add, Nat.pow_one]; omega, fun _ => ⟨by omega, ?_⟩⟩
      rw [show 1 + L - 1 = L by omega]
      by_cases hx : x / 2 = 0
      · rw [z hx]; simp; omega
      · obtain ⟨h3, h4⟩ := h2 hx
        rw [show L = (L - 1) + 1 by omega, Nat.pow_succ]; omega
end Go.Proofs.YtooehfjappckmaaDoor
