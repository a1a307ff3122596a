/-
  What backward does: the words of a set with their places, the greatest place first, to whatever loop goes through them.
-/
import Derived.RangeFuncNested
import Derived.RangeFuncBound
import Derived.RangeFuncCalls
import Derived.RangeFuncLeaves
import Derived.RangeFuncFrom
import Derived.Shelf.Abstract
import Derived.Shelf.RegionOpen
import Derived.WalkKit
import Derived.OwnWalkIn
import Derived.TacticsInMore
import Derived.LoopNIn
import Derived.LoopIn
import Derived.Test.YtooehfjappckmaaDoorRankWalks
namespace Go.Proofs.YtooehfjappckmaaDoor
set_option maxRecDepth 100000
open Go.RowKit Go.Shelf
attribute [local go_sem] Oper.semAt_some

theorem backward_any (n : Nat) (s : Value) (c : Int) (w : World) :
    Calls Tryd.prog 49 #[.agg #[.int .i64 n, s], .int .i64 c] w fun e w' => e = .returned (.func (.func 55) #[] #[.pointer (some ⟨w.heap.size + 1, 0, none⟩), .pointer (some ⟨w.heap.size, 0, none⟩)]) ∧ w' = (w.alloc (.cells #[.int .i64 n, s] 25)).alloc (.cells #[.int .i64 c] 3) := by
  go_enter Tryd.func49, Tryd.ntmps49
  go_wp2
  go_ret
  exact ⟨rfl, rfl⟩

/-- The first j places of C, the greatest one first. -/
def dn (C : Nat) : Nat → List (Fin 64)
  | 0 => []
  | j + 1 => dn C j ++ [⟨(C - 1 - j) % 64, Nat.mod_lt _ (by omega)⟩]
theorem dn_len (C j : Nat) : (dn C j).length = j := by
  induction j with
  | zero => rfl
  | succ j ih => simp [dn, ih]
def encs (p : Nat → Bool) (x : Fin 64) : Array Value := #[.int .i64 ((x.val : Nat) : Int), .int .u64 ((wd p x.val : Nat) : Int)]

set_option maxHeartbeats 2000000 in
theorem back1_in (n : Nat) (hn : 1 ≤ n) (l bs bc n₀ C N cap m : Nat) (x : Option Addr) (p : Nat → Bool) (hC : C ≤ 64) (hz : ∀ k, N ≤ k → wd p k = 0) (J Jx : List (Fin 64) → World → Prop) (W : World) (hJ : AbidesFrom W.heap.size J)
    (hY : ∀ pre x W1, J pre W1 → pre.length < C → YieldAt Fence.wide (n - 1) Tryd.prog l (encs p x) W1 fun e W' =>
      (e = .returned (.bool true) ∧ J (pre ++ [x]) W' ∧ Below n₀ W1 W') ∨ (e = .returned (.bool false) ∧ Jx (pre ++ [x]) W'))
    (hn₀ : n₀ ≤ W.heap.size) (hbs : bs < n₀) (hS : SBox bs (.int .i64 m) (.slice x N cap) W) (hc : W.cell? ⟨bc, 0, none⟩ = some (.int .i64 C)) (hW : WordsAt W x cap N p) (hWb : ∀ b, x = some ⟨b, 0, none⟩ → b < n₀) (h0 : J [] W) :
    CallsIn Fence.wide n Tryd.prog 55 #[.func (.yield l) #[] #[], .pointer (some ⟨bc, 0, none⟩), .pointer (some ⟨bs, 0, none⟩)] W fun e W' => (∃ v, e = .returned v) ∧
      ((∃ ys, ys = dn C C ∧ J ys W') ∨ (∃ pre, (∃ j, j ≤ C ∧ pre = dn C j) ∧ Jx pre W')) := by
  refine callsIn_of_wp Tryd.func55 rfl trivial ?_ rfl
  simp only [Tryd.ntmps55, List.size_toArray, List.length_cons, List.length_nil, Nat.reduceAdd, Nat.reduceSub, Array.replicate_succ, Array.replicate_zero, List.push_toArray, List.append_toArray, List.nil_append, List.cons_append]
  have HS := Lib.hid hS
  have HW := Lib.hid hW
  have Hz := Lib.hid hz
  have HJ := Lib.hid hJ
  have HY := Lib.hid hY
  have HWb := Lib.hid hWb
  have H0 := Lib.hid h0
  clear hS hW hz hJ hY hWb h0
  gi_wp2
  gi_loopw [4] (fun i wr => ∃ k j : Nat, k + j = C ∧ i = .int .i64 ((k : Int) - 1) ∧ Below n₀ W wr ∧ J (dn C j) wr) (fun i _ => (intOf i + 1).toNat)
  case atStart => exact ⟨C, 0, by omega, rfl, Below.refl _ _, H0.out⟩
  case round =>
    obtain ⟨k, j, hkj, rfl, hB, hJs⟩ := hrel
    clear hc H0
    cases k with
    | zero =>
      obtain rfl : j = C := by omega
      have HJs := Lib.hid hJs
      clear hJs hB
      gi_wp2
      go_end0
      exact ⟨⟨_, rfl⟩, .inl ⟨_, rfl, HJs.out⟩⟩
    | succ k =>
      have ek : ((k + 1 : Nat) : Int) - 1 = (k : Int) := by omega
      rw [ek]
      have hS1 := HS.out.low hB hbs
      have hW1 : WordsAt wr x cap N p := by
        rcases HW.out with h | ⟨b, h1, h2, h3, h4, h5⟩
        · exact .inl h
        · have hb := HWb.out b h1
          exact .inr ⟨b, h1, Nat.lt_of_lt_of_le h2 hB.size, h3, h4, fun i hi => by rw [hB.cell (by exact hb)]; exact h5 i hi⟩
      have WO := callsIn_wide (n := n - 1).2 (word_any (.int .i64 m) x cap N p k wr hW1 (Hz.out k))
      have hwr := hB.size
      obtain ⟨s0, s1, s2, s3, s4⟩ := hS1
      have HB := Lib.hid hB
      have HJs := Lib.hid hJs
      clear hJs hW1 hB
      gi_wp2_with fail
      refine ⟨trivial, WO.mono ?_⟩
      rintro e w2 ⟨rfl, b2⟩
      have HB2 := Lib.hid (HB.out.trans (b2.mono (show n₀ ≤ wr.heap.size by omega)))
      have hJ2 : J (dn C j) w2 := HJ.out _ wr w2 none HJs.out (grown_below b2) (fun r e => by cases e)
      have hxe : dn C j ++ [⟨k, by omega⟩] = dn C (j + 1) := by
        rw [dn]
        congr 2
        apply Fin.ext
        show k = (C - 1 - j) % 64
        rw [Nat.mod_eq_of_lt (by omega)]; omega
      obtain ⟨fn, tmps, assign, body, hy, hR⟩ := HY.out (dn C j) ⟨k, by omega⟩ w2 hJ2 (by rw [dn_len]; omega)
      dsimp only [encs] at hy
      rw [hxe] at hR
      have HR := Lib.hid hR
      have HK := Lib.hid hkj
      have hk64 : k < 64 := by omega
      clear b2 hJ2 hxe hR s0 s1 s2 s3 s4 WO HB HJs hkj
      gi_wp2
      refine HR.out.mono ?_
      rintro e W3 (⟨rfl, hJ3, hk3⟩ | ⟨rfl, hJx3⟩)
      · have HJ3 := Lib.hid hJ3
        have HB3 := Lib.hid (HB2.out.trans hk3)
        clear hJ3 hk3 hy HR HB2
        gi_wp2
        go_roundw
        case rel => exact ⟨k, j + 1, by have := HK.out; omega, by go_num, HB3.out, HJ3.out⟩
        case measure => simp [intOf]
      · have HJ3 := Lib.hid hJx3
        clear hJx3 hy HR HB2
        gi_wp2
        refine bodyPost_ret (results_none rfl _ _ _) rfl ?_
        exact ⟨⟨_, rfl⟩, .inr ⟨_, ⟨j + 1, by have := HK.out; omega, rfl⟩, HJ3.out⟩⟩

theorem back_stops (n : Nat) (hn : 1 ≤ n) (bs bc n₀ C N cap m : Nat) (x : Option Addr) (p : Nat → Bool) (hC : C ≤ 64) (hz : ∀ k, N ≤ k → wd p k = 0) (w : World) (hn₀ : n₀ ≤ w.heap.size) (hbs : bs < n₀) (hS : SBox bs (.int .i64 m) (.slice x N cap) w)
    (hbc : bc < w.heap.size) (hc : w.cell? ⟨bc, 0, none⟩ = some (.int .i64 C)) (hW : WordsAt w x cap N p) (hWb : ∀ b, x = some ⟨b, 0, none⟩ → b < n₀) :
    SeqStopsK Fence.wide n Tryd.prog 55 #[.pointer (some ⟨bc, 0, none⟩), .pointer (some ⟨bs, 0, none⟩)] (encs p) (Below n₀) (fun ys => ys = dn C C) (fun pre => ∃ j, j ≤ C ∧ pre = dn C j) C w :=
  fun l J Jx W hB hJ _ hY h0 => back1_in n hn l bs bc n₀ C N cap m x p hC hz J Jx W hJ hY (Nat.le_trans hn₀ hB.size) hbs (hS.next hB) ((hB.cell (p := ⟨bc, 0, none⟩) hbc).trans hc) (hW.below hB) hWb h0
end Go.Proofs.YtooehfjappckmaaDoor
