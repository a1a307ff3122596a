/-
  The document's Check (layer 9): where it ends early. Written by tools/genrefcheck.py.
-/
import Derived.Test.YtoaibbcdkbddeaaDoorInstRef
namespace Go.Proofs.YtoaibbcdkbddeaaDoor
set_option maxRecDepth 100000
open Go.RowKit

theorem rc_neg (K cap size : Int) (n1 n2 n3 k1 k2 k3 : Nat) (a1 a2 a3 : Option Addr) (w : World) (h0 : K < 0) :
    Calls Tryd.prog 10 #[.agg #[.int .i64 K, .int .i64 cap, .slice a1 n1 k1, .slice a2 n2 k2, .int .i64 size, .slice a3 n3 k3]] w fun e w' => e = .returned (.int .i64 25) ∧ Below w.heap.size w w' := by
  go_enter Tryd.func10, Tryd.ntmps10
  go_wp2
  go_ret
  exact ⟨rfl, new_below _ _⟩

theorem rc_big (K cap size : Int) (n1 n2 n3 k1 k2 k3 : Nat) (a1 a2 a3 : Option Addr) (w : World) (h0 : ¬ K < 0) (h1 : 3 < K) :
    Calls Tryd.prog 10 #[.agg #[.int .i64 K, .int .i64 cap, .slice a1 n1 k1, .slice a2 n2 k2, .int .i64 size, .slice a3 n3 k3]] w fun e w' => e = .returned (.int .i64 25) ∧ Below w.heap.size w w' := by
  go_enter Tryd.func10, Tryd.ntmps10
  go_wp2
  go_ret
  exact ⟨rfl, new_below _ _⟩

theorem rc_k0a (cap size : Int) (n1 n2 n3 k1 k2 k3 : Nat) (a1 a2 a3 : Option Addr) (w : World) (p0 : (0 : Int) < (n2 : Int)) :
    Calls Tryd.prog 10 #[.agg #[.int .i64 0, .int .i64 cap, .slice a1 n1 k1, .slice a2 n2 k2, .int .i64 size, .slice a3 n3 k3]] w fun e w' => e = .returned (.int .i64 4) ∧ Below w.heap.size w w' := by
  go_enter Tryd.func10, Tryd.ntmps10
  go_wp2
  go_ret
  exact ⟨rfl, new_below _ _⟩

theorem rc_k0b (cap size : Int) (n1 n3 k1 k2 k3 : Nat) (a1 a2 a3 : Option Addr) (w : World) (p2 : ¬ size = 0) :
    Calls Tryd.prog 10 #[.agg #[.int .i64 0, .int .i64 cap, .slice a1 n1 k1, .slice a2 0 k2, .int .i64 size, .slice a3 n3 k3]] w fun e w' => e = .returned (.int .i64 4) ∧ Below w.heap.size w w' := by
  go_enter Tryd.func10, Tryd.ntmps10
  go_wp2
  go_ret
  exact ⟨rfl, new_below _ _⟩

theorem rc_k0c (cap : Int) (n1 n3 k1 k2 k3 : Nat) (a1 a2 a3 : Option Addr) (w : World) (p0 : (0 : Int) < (n3 : Int)) :
    Calls Tryd.prog 10 #[.agg #[.int .i64 0, .int .i64 cap, .slice a1 n1 k1, .slice a2 0 k2, .int .i64 0, .slice a3 n3 k3]] w fun e w' => e = .returned (.int .i64 4) ∧ Below w.heap.size w w' := by
  go_enter Tryd.func10, Tryd.ntmps10
  go_wp2
  go_ret
  exact ⟨rfl, new_below _ _⟩

theorem rc_k0d (cap : Int) (n1 k1 k2 k3 : Nat) (a1 a2 a3 : Option Addr) (w : World) (p0 : (4096 : Int) < (n1 : Int)) :
    Calls Tryd.prog 10 #[.agg #[.int .i64 0, .int .i64 cap, .slice a1 n1 k1, .slice a2 0 k2, .int .i64 0, .slice a3 0 k3]] w fun e w' => e = .returned (.int .i64 22) ∧ Below w.heap.size w w' := by
  go_enter Tryd.func10, Tryd.ntmps10
  go_wp2
  go_ret
  exact ⟨rfl, new_below _ _⟩

theorem rc_k3a (cap size : Int) (n1 n2 n3 k1 k2 k3 : Nat) (a1 a2 a3 : Option Addr) (w : World) (p0 : ¬ cap = 0) :
    Calls Tryd.prog 10 #[.agg #[.int .i64 3, .int .i64 cap, .slice a1 n1 k1, .slice a2 n2 k2, .int .i64 size, .slice a3 n3 k3]] w fun e w' => e = .returned (.int .i64 4) ∧ Below w.heap.size w w' := by
  go_enter Tryd.func10, Tryd.ntmps10
  go_wp2
  go_ret
  exact ⟨rfl, new_below _ _⟩

theorem rc_k3b (size : Int) (n1 n2 n3 k1 k2 k3 : Nat) (a1 a2 a3 : Option Addr) (w : World) (p0 : (0 : Int) < (n1 : Int)) :
    Calls Tryd.prog 10 #[.agg #[.int .i64 3, .int .i64 0, .slice a1 n1 k1, .slice a2 n2 k2, .int .i64 size, .slice a3 n3 k3]] w fun e w' => e = .returned (.int .i64 4) ∧ Below w.heap.size w w' := by
  go_enter Tryd.func10, Tryd.ntmps10
  go_wp2
  go_ret
  exact ⟨rfl, new_below _ _⟩

theorem rc_k3c (size : Int) (n2 n3 k1 k2 k3 : Nat) (a1 a2 a3 : Option Addr) (w : World) (p0 : (0 : Int) < (n2 : Int)) :
    Calls Tryd.prog 10 #[.agg #[.int .i64 3, .int .i64 0, .slice a1 0 k1, .slice a2 n2 k2, .int .i64 size, .slice a3 n3 k3]] w fun e w' => e = .returned (.int .i64 4) ∧ Below w.heap.size w w' := by
  go_enter Tryd.func10, Tryd.ntmps10
  go_wp2
  go_ret
  exact ⟨rfl, new_below _ _⟩

theorem rc_k3d (size : Int) (n3 k1 k2 k3 : Nat) (a1 a2 a3 : Option Addr) (w : World) (p0 : (4096 : Int) < (n3 : Int)) :
    Calls Tryd.prog 10 #[.agg #[.int .i64 3, .int .i64 0, .slice a1 0 k1, .slice a2 0 k2, .int .i64 size, .slice a3 n3 k3]] w fun e w' => e = .returned (.int .i64 22) ∧ Below w.heap.size w w' := by
  go_enter Tryd.func10, Tryd.ntmps10
  go_wp2
  go_ret
  exact ⟨rfl, new_below _ _⟩

theorem rc_k3e (size : Int) (n3 k1 k2 k3 : Nat) (a1 a2 a3 : Option Addr) (w : World) (p0 : ¬ (4096 : Int) < (n3 : Int)) (p1 : size < 0) :
    Calls Tryd.prog 10 #[.agg #[.int .i64 3, .int .i64 0, .slice a1 0 k1, .slice a2 0 k2, .int .i64 size, .slice a3 n3 k3]] w fun e w' => e = .returned (.int .i64 22) ∧ Below w.heap.size w w' := by
  go_enter Tryd.func10, Tryd.ntmps10
  go_wp2
  go_ret
  exact ⟨rfl, new_below _ _⟩

theorem rc_k3f (size : Int) (n3 k1 k2 k3 : Nat) (a1 a2 a3 : Option Addr) (w : World) (p0 : ¬ (4096 : Int) < (n3 : Int)) (p1 : ¬ size < 0) (p2 : 4096 < size) :
    Calls Tryd.prog 10 #[.agg #[.int .i64 3, .int .i64 0, .slice a1 0 k1, .slice a2 0 k2, .int .i64 size, .slice a3 n3 k3]] w fun e w' => e = .returned (.int .i64 22) ∧ Below w.heap.size w w' := by
  go_enter Tryd.func10, Tryd.ntmps10
  go_wp2
  go_ret
  exact ⟨rfl, new_below _ _⟩

theorem rc_k1a (cap size : Int) (n1 n2 n3 k1 k2 k3 : Nat) (a1 a2 a3 : Option Addr) (w : World) (p0 : ¬ cap = 0) :
    Calls Tryd.prog 10 #[.agg #[.int .i64 1, .int .i64 cap, .slice a1 n1 k1, .slice a2 n2 k2, .int .i64 size, .slice a3 n3 k3]] w fun e w' => e = .returned (.int .i64 4) ∧ Below w.heap.size w w' := by
  go_enter Tryd.func10, Tryd.ntmps10
  go_wp2
  go_ret
  exact ⟨rfl, new_below _ _⟩

theorem rc_k1b (size : Int) (n1 n2 n3 k1 k2 k3 : Nat) (a1 a2 a3 : Option Addr) (w : World) (p0 : (0 : Int) < (n1 : Int)) :
    Calls Tryd.prog 10 #[.agg #[.int .i64 1, .int .i64 0, .slice a1 n1 k1, .slice a2 n2 k2, .int .i64 size, .slice a3 n3 k3]] w fun e w' => e = .returned (.int .i64 4) ∧ Below w.heap.size w w' := by
  go_enter Tryd.func10, Tryd.ntmps10
  go_wp2
  go_ret
  exact ⟨rfl, new_below _ _⟩

theorem rc_k1c (size : Int) (n2 n3 k1 k2 k3 : Nat) (a1 a2 a3 : Option Addr) (w : World) (p2 : ¬ size = 0) :
    Calls Tryd.prog 10 #[.agg #[.int .i64 1, .int .i64 0, .slice a1 0 k1, .slice a2 n2 k2, .int .i64 size, .slice a3 n3 k3]] w fun e w' => e = .returned (.int .i64 4) ∧ Below w.heap.size w w' := by
  go_enter Tryd.func10, Tryd.ntmps10
  go_wp2
  go_ret
  exact ⟨rfl, new_below _ _⟩

theorem rc_k1d (n2 n3 k1 k2 k3 : Nat) (a1 a2 a3 : Option Addr) (w : World) (p0 : (0 : Int) < (n3 : Int)) :
    Calls Tryd.prog 10 #[.agg #[.int .i64 1, .int .i64 0, .slice a1 0 k1, .slice a2 n2 k2, .int .i64 0, .slice a3 n3 k3]] w fun e w' => e = .returned (.int .i64 4) ∧ Below w.heap.size w w' := by
  go_enter Tryd.func10, Tryd.ntmps10
  go_wp2
  go_ret
  exact ⟨rfl, new_below _ _⟩

theorem rc_k1e (n2 k1 k2 k3 : Nat) (a1 a2 a3 : Option Addr) (w : World) (p0 : (64 : Int) < (n2 : Int)) :
    Calls Tryd.prog 10 #[.agg #[.int .i64 1, .int .i64 0, .slice a1 0 k1, .slice a2 n2 k2, .int .i64 0, .slice a3 0 k3]] w fun e w' => e = .returned (.int .i64 22) ∧ Below w.heap.size w w' := by
  go_enter Tryd.func10, Tryd.ntmps10
  go_wp2
  go_ret
  exact ⟨rfl, new_below _ _⟩

theorem rc_k1f (k1 k2 k3 : Nat) (a1 a2 a3 : Option Addr) (w : World)  :
    Calls Tryd.prog 10 #[.agg #[.int .i64 1, .int .i64 0, .slice a1 0 k1, .slice a2 0 k2, .int .i64 0, .slice a3 0 k3]] w fun e w' => e = .returned (.int .i64 22) ∧ Below w.heap.size w w' := by
  go_enter Tryd.func10, Tryd.ntmps10
  go_wp2
  go_ret
  exact ⟨rfl, new_below _ _⟩

theorem rc_k2a (cap size : Int) (n1 n2 n3 k1 k2 k3 : Nat) (a1 a2 a3 : Option Addr) (w : World) (p0 : ¬ cap = 0) :
    Calls Tryd.prog 10 #[.agg #[.int .i64 2, .int .i64 cap, .slice a1 n1 k1, .slice a2 n2 k2, .int .i64 size, .slice a3 n3 k3]] w fun e w' => e = .returned (.int .i64 4) ∧ Below w.heap.size w w' := by
  go_enter Tryd.func10, Tryd.ntmps10
  go_wp2
  go_ret
  exact ⟨rfl, new_below _ _⟩

theorem rc_k2b (size : Int) (n1 n2 n3 k1 k2 k3 : Nat) (a1 a2 a3 : Option Addr) (w : World) (p0 : (0 : Int) < (n1 : Int)) :
    Calls Tryd.prog 10 #[.agg #[.int .i64 2, .int .i64 0, .slice a1 n1 k1, .slice a2 n2 k2, .int .i64 size, .slice a3 n3 k3]] w fun e w' => e = .returned (.int .i64 4) ∧ Below w.heap.size w w' := by
  go_enter Tryd.func10, Tryd.ntmps10
  go_wp2
  go_ret
  exact ⟨rfl, new_below _ _⟩

theorem rc_k2c (size : Int) (n2 n3 k1 k2 k3 : Nat) (a1 a2 a3 : Option Addr) (w : World) (p2 : ¬ size = 0) :
    Calls Tryd.prog 10 #[.agg #[.int .i64 2, .int .i64 0, .slice a1 0 k1, .slice a2 n2 k2, .int .i64 size, .slice a3 n3 k3]] w fun e w' => e = .returned (.int .i64 4) ∧ Below w.heap.size w w' := by
  go_enter Tryd.func10, Tryd.ntmps10
  go_wp2
  go_ret
  exact ⟨rfl, new_below _ _⟩

theorem rc_k2d (n2 n3 k1 k2 k3 : Nat) (a1 a2 a3 : Option Addr) (w : World) (p0 : (0 : Int) < (n3 : Int)) :
    Calls Tryd.prog 10 #[.agg #[.int .i64 2, .int .i64 0, .slice a1 0 k1, .slice a2 n2 k2, .int .i64 0, .slice a3 n3 k3]] w fun e w' => e = .returned (.int .i64 4) ∧ Below w.heap.size w w' := by
  go_enter Tryd.func10, Tryd.ntmps10
  go_wp2
  go_ret
  exact ⟨rfl, new_below _ _⟩

theorem rc_k2e (n2 k1 k2 k3 : Nat) (a1 a2 a3 : Option Addr) (w : World) (p0 : (64 : Int) < (n2 : Int)) :
    Calls Tryd.prog 10 #[.agg #[.int .i64 2, .int .i64 0, .slice a1 0 k1, .slice a2 n2 k2, .int .i64 0, .slice a3 0 k3]] w fun e w' => e = .returned (.int .i64 22) ∧ Below w.heap.size w w' := by
  go_enter Tryd.func10, Tryd.ntmps10
  go_wp2
  go_ret
  exact ⟨rfl, new_below _ _⟩

theorem rc_k2f (k1 k2 k3 : Nat) (a1 a2 a3 : Option Addr) (w : World)  :
    Calls Tryd.prog 10 #[.agg #[.int .i64 2, .int .i64 0, .slice a1 0 k1, .slice a2 0 k2, .int .i64 0, .slice a3 0 k3]] w fun e w' => e = .returned (.int .i64 22) ∧ Below w.heap.size w w' := by
  go_enter Tryd.func10, Tryd.ntmps10
  go_wp2
  go_ret
  exact ⟨rfl, new_below _ _⟩
end Go.Proofs.YtoaibbcdkbddeaaDoor
