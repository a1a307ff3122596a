/-
  Plain mathematics: words of two sets joined.
-/
import Derived.Test.YtooehfjappckmaaDoorMadeWalks
namespace Go.Proofs.YtooehfjappckmaaDoor
open Go.RowKit

theorem wd_or (p q : Nat → Bool) (k : Nat) : wd (fun i => p i || q i) k = wd p k ||| wd q k :=
  (wd_eq (Nat.or_lt_two_pow (n := 64) (wd_lt _ _) (wd_lt _ _)) fun j hj => by rw [Nat.testBit_or, wd_bit, wd_bit]; simp [hj]).symm
theorem wd_and (p q : Nat → Bool) (k : Nat) : wd (fun i => p i && q i) k = wd p k &&& wd q k :=
  (wd_eq (Nat.lt_of_le_of_lt Nat.and_le_left (wd_lt _ _)) fun j hj => by rw [Nat.testBit_and, wd_bit, wd_bit]; simp [hj]).symm
theorem wd_less (p q : Nat → Bool) (k : Nat) : wd (fun i => p i && !q i) k = wd p k &&& (18446744073709551615 - wd q k) :=
  (wd_eq (Nat.lt_of_le_of_lt Nat.and_le_left (wd_lt _ _)) fun j hj => by
    have h := wd_lt q k
    rw [Nat.testBit_and, show 18446744073709551615 - wd q k = 2 ^ 64 - (wd q k + 1) by omega, Nat.testBit_two_pow_sub_succ h, wd_bit, wd_bit]; simp [hj]).symm
theorem wd_xor (p q : Nat → Bool) (k : Nat) : wd (fun i => (p i ^^ q i)) k = wd p k ^^^ wd q k :=
  (wd_eq (Nat.xor_lt_two_pow (n := 64) (wd_lt _ _) (wd_lt _ _)) fun j hj => by rw [Nat.testBit_xor, wd_bit, wd_bit]; simp [hj]).symm
end Go.Proofs.YtooehfjappckmaaDoor
