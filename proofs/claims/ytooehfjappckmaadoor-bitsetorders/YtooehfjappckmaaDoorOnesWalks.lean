/-
  What math/bits.OnesCount64 and TrailingZeros64 do. (TrailingZeros64: by the library's contract, laid at this translation.)
-/
import Derived.Test.YtooehfjappckmaaDoorRows
import Derived.Test.YtooehfjappckmaaDoorPopMath
import Derived.Shelf.Spec.TrailingZeros
import Derived.WalkSpells
import Derived.WalkLawsBesides
namespace Go.Proofs.YtooehfjappckmaaDoor
set_option maxRecDepth 100000
open Go.RowKit Go.Shelf

set_option maxHeartbeats 1000000 in
theorem ones64_any (x : Nat) (hx : x < 18446744073709551616) (w : World) :
    Calls Tryd.prog 52 #[.int .u64 (x : Int)] w fun e w' => e = .returned (.int .i64 ((cnt x.testBit 64 : Nat) : Int)) ∧ w' = w := by
  obtain ⟨x1, h1⟩ : ∃ y, y = (x / 2 &&& 6148914691236517205) + (x &&& 6148914691236517205) := ⟨_, rfl⟩
  obtain ⟨x2, h2⟩ : ∃ y, y = (x1 / 4 &&& 3689348814741910323) + (x1 &&& 3689348814741910323) := ⟨_, rfl⟩
  obtain ⟨x3, h3⟩ : ∃ y, y = (x2 / 16 + x2) &&& 1085102592571150095 := ⟨_, rfl⟩
  obtain ⟨x4, h4⟩ : ∃ y, y = x3 + x3 / 256 := ⟨_, rfl⟩
  obtain ⟨x5, h5⟩ : ∃ y, y = x4 + x4 / 65536 := ⟨_, rfl⟩
  obtain ⟨x6, h6⟩ : ∃ y, y = x5 + x5 / 4294967296 := ⟨_, rfl⟩
  obtain ⟨b1, b2, b4, b5, b6, hr⟩ := pop_steps x x1 x2 x3 x4 x5 x6 h1 h2 h3 h4 h5 h6
  have a1 : bits .and .u64 ((x : Int) / 2) 6148914691236517205 = ((x / 2 &&& 6148914691236517205 : Nat) : Int) := by
    rw [← bits_and_u64_nat (x / 2) 6148914691236517205 (by omega) (by omega)]; rfl
  have a2 : bits .and .u64 (x : Int) 6148914691236517205 = ((x &&& 6148914691236517205 : Nat) : Int) := bits_and_u64_nat x 6148914691236517205 hx (by omega)
  have l1 : (x / 2 &&& 6148914691236517205) ≤ 6148914691236517205 := Nat.and_le_right
  have l2 : (x &&& 6148914691236517205) ≤ 6148914691236517205 := Nat.and_le_right
  have l3 : (x1 / 4 &&& 3689348814741910323) ≤ 3689348814741910323 := Nat.and_le_right
  have l4 : (x1 &&& 3689348814741910323) ≤ 3689348814741910323 := Nat.and_le_right
  have l5 : x3 ≤ 1085102592571150095 := by rw [h3]; exact Nat.and_le_right
  have a3 : IntKind.u64.wrap (((x / 2 &&& 6148914691236517205 : Nat) : Int) + ((x &&& 6148914691236517205 : Nat) : Int)) = (x1 : Int) := by rw [IntKind.wrap_u64]; omega
  have a4 : bits .and .u64 ((x1 : Int) / 4) 3689348814741910323 = ((x1 / 4 &&& 3689348814741910323 : Nat) : Int) := by
    rw [← bits_and_u64_nat (x1 / 4) 3689348814741910323 (by omega) (by omega)]; rfl
  have a5 : bits .and .u64 (x1 : Int) 3689348814741910323 = ((x1 &&& 3689348814741910323 : Nat) : Int) := bits_and_u64_nat x1 3689348814741910323 b1 (by omega)
  have a6 : IntKind.u64.wrap (((x1 / 4 &&& 3689348814741910323 : Nat) : Int) + ((x1 &&& 3689348814741910323 : Nat) : Int)) = (x2 : Int) := by rw [IntKind.wrap_u64]; omega
  have a7 : IntKind.u64.wrap ((x2 : Int) / 16 + (x2 : Int)) = (x2 : Int) / 16 + (x2 : Int) := by rw [IntKind.wrap_u64]; omega
  have a8 : bits .and .u64 ((x2 : Int) / 16 + (x2 : Int)) 1085102592571150095 = (x3 : Int) := by
    rw [h3]; exact bits_and_u64_nat (x2 / 16 + x2) 1085102592571150095 (by omega) (by omega)
  have a9 : IntKind.u64.wrap ((x3 : Int) + (x3 : Int) / 256) = (x4 : Int) := by rw [IntKind.wrap_u64]; omega
  have a10 : IntKind.u64.wrap ((x4 : Int) + (x4 : Int) / 65536) = (x5 : Int) := by rw [IntKind.wrap_u64]; omega
  have a11 : IntKind.u64.wrap ((x5 : Int) + (x5 : Int) / 4294967296) = (x6 : Int) := by rw [IntKind.wrap_u64]; omega
  have a12 : bits .and .i64 (x6 : Int) 127 = ((cnt x.testBit 64 : Nat) : Int) := by rw [and127 x6 b6, hr]
  have a13 : wrap64 (x6 : Int) = (x6 : Int) := by unfold wrap64; omega
  clear h1 h2 h3 h4 h5 h6 hr
  go_enter Tryd.func52, Tryd.ntmps52
  go_wp2
  go_ret
  exact ⟨rfl, rfl⟩

/-- The table of the library, in its variable. -/
def TabOk (w : World) : Prop := TabAt 0 Lib.deBruijn64tab w
theorem TabOk.below {w w' : World} (h : TabOk w) (h1 : 0 < w.heap.size) (hb : Below w.heap.size w w') : TabOk w' := fun j hj => by rw [hb.cell (by exact h1)]; exact h j hj

def tzRen : Go.Shelf.Ren := ⟨fun | 29 => 40 | n => n, fun | 0 => 0 | 3 => 3 | 4 => 4 | 5 => 5 | 22 => 52 | 25 => 65 | 54 => 64 | n => n, fun | 1 => 0 | n => n⟩
theorem tzLays : Go.Proofs.Lays7.n29 Tryd.prog tzRen := {
  mixed := by kernel_rfl
  f29 := Tryd.func40.trans (congrArg some (by kernel_rfl))
  t0 := Tryd.underlying0
  a0 := Tryd.isAgg0
  z0 := Tryd.sizeOf0
  v0 := Tryd.zeroValue0
  i0 := by kernel_rfl
  t3 := Tryd.underlying3
  a3 := Tryd.isAgg3
  z3 := Tryd.sizeOf3
  v3 := Tryd.zeroValue3
  i3 := by kernel_rfl
  t4 := Tryd.underlying4
  a4 := Tryd.isAgg4
  z4 := Tryd.sizeOf4
  v4 := Tryd.zeroValue4
  i4 := by kernel_rfl
  t5 := Tryd.underlying5
  a5 := Tryd.isAgg5
  z5 := Tryd.sizeOf5
  v5 := Tryd.zeroValue5
  i5 := by kernel_rfl
  t22 := Tryd.underlying52
  a22 := Tryd.isAgg52
  z22 := Tryd.sizeOf52
  v22 := Tryd.zeroValue52
  i22 := by kernel_rfl
  t25 := Tryd.underlying65
  a25 := Tryd.isAgg65
  z25 := Tryd.sizeOf65
  v25 := Tryd.zeroValue65
  i25 := by kernel_rfl
  t54 := Tryd.underlying64
  a54 := Tryd.isAgg64
  z54 := Tryd.sizeOf64
  g1 := by kernel_rfl }

theorem tz64_any (x : Nat) (hx : x < 18446744073709551616) (w : World) (hT : TabOk w) :
    Calls Tryd.prog 40 #[.int .u64 (x : Int)] w fun e w' => e = .returned (.int .i64 ((Lib.ctz 64 x : Nat) : Int)) ∧ w' = w :=
  Any7.bits_TrailingZeros64 tzLays x hx w fun _ => hT
end Go.Proofs.YtooehfjappckmaaDoor
