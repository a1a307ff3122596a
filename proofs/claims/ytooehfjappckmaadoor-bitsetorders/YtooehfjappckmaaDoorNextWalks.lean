/-
  What ones, Count, Has do.
-/
import Derived.Test.YtooehfjappckmaaDoorFullWalks
import Derived.Test.YtooehfjappckmaaDoorOnesWalks
import Derived.Test.YtooehfjappckmaaDoorNextMath
namespace Go.Proofs.YtooehfjappckmaaDoor
set_option maxRecDepth 100000
open Go.RowKit

theorem ones_any (x : Option Addr) (cap N : Nat) (p : Nat → Bool) (hN : N ≤ 64) (w : World) (h : WordsAt w x cap N p) :
    Calls Tryd.prog 38 #[.slice x N cap] w fun e w' => e = .returned (.int .i64 ((cnt p (64 * N) : Nat) : Int)) ∧ w' = w := by
  go_enter Tryd.func38, Tryd.ntmps38
  go_wp2
  go_loopw [3, 8] (fun s i wr => ∃ k : Nat, k ≤ N ∧ i = .int .i64 k ∧ s = .int .i64 ((cnt p (64 * k) : Nat) : Int) ∧ wr = w) (fun _ i _ => N - (intOf i).toNat)
  case atStart => exact ⟨0, by omega, rfl, rfl, rfl⟩
  case round =>
    obtain ⟨k, hk, rfl, rfl, rfl⟩ := hrel
    by_cases hlt : k < N
    · obtain ⟨b, rfl, hb, hc⟩ := h.at hlt
      have hu := wd_lt p k
      have hs := cnt_wd p k
      have hb1 := cnt_le p (64 * (k + 1))
      have ON := ones64_any (wd p k) hu
      generalize wd p k = u at *
      generalize cnt p (64 * k) = c at *
      generalize cnt u.testBit 64 = d at *
      have HS := Lib.hid hs
      have hcd : c + d ≤ 64 * (k + 1) := by omega
      clear hs hb1
      go_wp2_with fail
      with_reducible refine (ON _).mono ?_
      rintro e w1 ⟨rfl, rfl⟩
      go_wp2
      go_roundw
      case rel => exact ⟨k + 1, by omega, by go_num, by rw [HS.out]; go_num, trivial⟩
      case measure => simp [intOf]; omega
    · obtain rfl : k = N := by omega
      go_wp2
      go_ret
      exact ⟨rfl, rfl⟩

theorem count_any (a : Value) (n : Nat) (x : Option Addr) (cap : Nat) (p : Nat → Bool) (w : World) (h : SetAt w n p x cap) :
    Calls Tryd.prog 11 #[.agg #[a, .slice x (nw n) cap]] w fun e w' => e = .returned (.int .i64 ((cnt p n : Nat) : Int)) ∧ Below w.heap.size w w' := by
  have O := ones_any x cap (nw n) p (nw_le h.le) (w.alloc (.cells #[a, .slice x (nw n) cap] 25)) (h.words.below (one_below _ _))
  rw [cnt_beyond h.out (show n ≤ 64 * nw n by unfold nw; omega)] at O
  go_enter Tryd.func11, Tryd.ntmps11
  go_wp2_with fail
  with_reducible refine O.mono ?_
  rintro e w1 ⟨rfl, rfl⟩
  go_wp2
  go_ret
  exact ⟨rfl, one_below _ _⟩

/-- Is a number in it? -/
def has (p : Nat → Bool) (i : Int) : Bool := decide (0 ≤ i) && p i.toNat

theorem has_any (n : Nat) (x : Option Addr) (cap : Nat) (p : Nat → Bool) (i : Int) (w : World) (h : SetAt w n p x cap) :
    Calls Tryd.prog 12 #[.agg #[.int .i64 n, .slice x (nw n) cap], .int .i64 i] w fun e w' => e = .returned (.bool (has p i)) ∧ Below w.heap.size w w' := by
  have H := holds_any n (.slice x (nw n) cap) i
  obtain ⟨hle, hout, hw⟩ := h
  by_cases hi : 0 ≤ i ∧ i < n
  · rw [decide_eq_true hi] at H
    obtain ⟨h0, h1⟩ := hi
    obtain ⟨m, rfl⟩ := Int.eq_ofNat_of_zero_le h0
    obtain ⟨b, rfl, hb, hc⟩ := hw.at (k := m / 64) (nw_at (by omega))
    have hk : m / 64 < nw n := nw_at (by omega)
    have hN := nw_le hle
    have e1 : ((m : Nat) : Int) / 64 = ((m / 64 : Nat) : Int) := by omega
    have e2 : ((m : Nat) : Int) % 64 = ((m % 64 : Nat) : Int) := by omega
    have hj : m % 64 < 64 := by omega
    have hbit := bit_and (wd p (m / 64)) (m % 64) (wd_lt _ _)
    have hr : has p (m : Int) = (wd p (m / 64)).testBit (m % 64) := by
      rw [wd_bit, show 64 * (m / 64) + m % 64 = m by omega]
      unfold has; simp [hj]
    rw [hr]
    generalize wd p (m / 64) = u at *
    generalize u.testBit (m % 64) = t at *
    generalize m / 64 = k at *
    generalize m % 64 = j at *
    have hB : Below w.heap.size w (w.alloc (.cells #[.int .i64 n, .slice (some ⟨b, 0, none⟩) (nw n) cap] 25)) := one_below _ _
    clear hr hw hout
    go_enter Tryd.func12, Tryd.ntmps12
    go_wp2_with fail
    with_reducible refine (H _).mono ?_
    rintro e w1 ⟨rfl, b1⟩
    have B := on hB b1
    have hT := (sbox_new w (.int .i64 n) (.slice (some ⟨b, 0, none⟩) (nw n) cap) 25).next b1
    have hc1 : w1.cell? ⟨b, k, none⟩ = some (.int .u64 (u : Int)) := by rw [B.cell (by exact hb)]; exact hc
    obtain ⟨t0, t1, t2, t3, t4⟩ := hT
    have HB := Lib.hid B
    clear b1 B hB hc H
    cases t with
    | true =>
      simp only [if_true] at hbit
      go_wp2
      go_ret
      exact ⟨rfl, HB.out⟩
    | false =>
      simp only [Bool.false_eq_true, if_false] at hbit
      go_wp2
      go_ret
      exact ⟨rfl, HB.out⟩
  · rw [decide_eq_false hi] at H
    have hr : has p i = false := by
      unfold has
      by_cases h0 : 0 ≤ i
      · rw [hout _ (by omega)]; simp
      · simp [h0]
    rw [hr]
    clear hr hw hout hi
    go_enter Tryd.func12, Tryd.ntmps12
    go_wp2_with fail
    with_reducible refine (H _).mono ?_
    rintro e w1 ⟨rfl, b1⟩
    have B := on (one_below w _) b1
    clear b1
    go_wp2
    go_ret
    exact ⟨rfl, B⟩
end Go.Proofs.YtooehfjappckmaaDoor
