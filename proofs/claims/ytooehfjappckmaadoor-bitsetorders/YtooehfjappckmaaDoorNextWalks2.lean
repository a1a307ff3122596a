/-
  What Next does.
-/
import Derived.Test.YtooehfjappckmaaDoorNextWalks
namespace Go.Proofs.YtooehfjappckmaaDoor
set_option maxRecDepth 100000
open Go.RowKit

/-- What of Go's library is read: its table. -/
structure LibOk (w : World) : Prop where
  mk ::
  tab : TabOk w
  lt : 0 < w.heap.size
theorem LibOk.below {w w' : World} (h : LibOk w) (hb : Below w.heap.size w w') : LibOk w' := ⟨h.tab.below h.lt hb, Nat.lt_of_lt_of_le h.lt hb.size⟩

theorem ret_int {a b : Int} (h : a = b) : Ending.returned (.int .i64 a) = Ending.returned (.int .i64 b) := by rw [h]
theorem ret_bool {a b : Bool} (h : a = b) : Ending.returned (.bool a) = Ending.returned (.bool b) := by rw [h]

set_option maxHeartbeats 2000000 in
theorem next_any (n : Nat) (x : Option Addr) (cap : Nat) (p : Nat → Bool) (i : Int) (w : World) (h : SetAt w n p x cap) (hL : LibOk w) :
    Calls Tryd.prog 13 #[.agg #[.int .i64 n, .slice x (nw n) cap], .int .i64 i] w fun e w' => e = .returned (.int .i64 (nxI n p i)) ∧ Below w.heap.size w w' := by
  have hT := (hL.below (one_below w (.cells #[.int .i64 n, .slice x (nw n) cap] 25))).tab
  have hW := h.words.below (one_below w (.cells #[.int .i64 n, .slice x (nw n) cap] 25))
  obtain ⟨hle, hout, _⟩ := h
  have hN := nw_le hle
  have hB : Below w.heap.size w (w.alloc (.cells #[.int .i64 n, .slice x (nw n) cap] 25)) := one_below _ _
  have HB := Lib.hid hB
  have hS := sbox_new w (.int .i64 n) (.slice x (nw n) cap) 25
  obtain ⟨s0, s1, s2, s3, s4⟩ := hS
  unfold nxI
  obtain ⟨m, hm⟩ : ∃ m : Nat, max i 0 = (m : Int) := ⟨i.toNat, by omega⟩
  have em : i.toNat = m := by omega
  have hm' : (if i < 0 then 0 else i) = (m : Int) := by split <;> omega
  rw [em]
  generalize hW0 : w.alloc (.cells #[.int .i64 n, .slice x (nw n) cap] 25) = W at *
  clear hB hL em
  clear hm
  by_cases hin : m < n
  · obtain ⟨k0, j, hmk, hj⟩ : ∃ k j, m = 64 * k + j ∧ j < 64 := ⟨m / 64, m % 64, by omega, by omega⟩
    have hk0 : k0 < nw n := by unfold nw; omega
    have e1 : (m : Int) / 64 = (k0 : Int) := by omega
    have e2 : (m : Int) % 64 = (j : Int) := by omega
    obtain ⟨b, rfl, hb, hc⟩ := hW.at hk0
    have hu := wd_lt p k0
    have eq : (wd p k0 : Int) / 2 ^ j = ((wd p k0 / 2 ^ j : Nat) : Int) := by simp
    by_cases hv : wd p k0 / 2 ^ j = 0
    · have hno : Hid (∀ t, m ≤ t → t < 64 * (k0 + 1) → p t = false) := by rw [hmk]; exact next_not hv
      have hq : (wd p k0 : Int) / 2 ^ j = 0 := by rw [eq, hv]; rfl
      have Hm := Lib.hid hmk
      clear eq hv hmk
      have HT := Lib.hid hT
      clear hT
      go_enter Tryd.func13, Tryd.ntmps13
      go_wp2
      go_loopw [5] (fun kk wr => ∃ k : Nat, k0 < k ∧ k ≤ nw n ∧ kk = .int .i64 k ∧ Hid (∀ t, m ≤ t → t < 64 * k → p t = false) ∧ wr = W) (fun kk _ => nw n - (intOf kk).toNat)
      case atStart => exact ⟨k0 + 1, by omega, by omega, by go_num, hno, rfl⟩
      case round =>
        obtain ⟨k, hk1, hk2, rfl, hz, rfl⟩ := hrel
        clear hno hc hq
        by_cases hlt : k < nw n
        · obtain ⟨b', he, hb', hc⟩ := hW.at hlt
          injection he with he
          injection he with he
          subst he
          have hu := wd_lt p k
          by_cases hv : wd p k = 0
          · rw [hv] at hc
            have hz1 : Hid (∀ t, m ≤ t → t < 64 * (k + 1) → p t = false) := by
              intro t h1 h2
              by_cases h : t < 64 * k
              · exact hz t h1 h
              · have := wd_ne hv (t - 64 * k) (by omega)
                rwa [show 64 * k + (t - 64 * k) = t by omega] at this
            clear hz hv
            go_wp2
            go_roundw
            case rel => exact ⟨k + 1, by omega, by omega, by go_num, hz1, trivial⟩
            case measure => simp [intOf]; omega
          · obtain ⟨a1, a2⟩ := next_word (i := m) hout (by have := Hm.out; omega) hz hv
            have TZ := tz64_any (wd p k) hu wr HT.out
            have hv' : ((wd p k : Int) != 0) = true := by simp; omega
            generalize Lib.ctz 64 (wd p k) = c at *
            generalize wd p k = u at *
            have A2 := Lib.hid a2
            clear a2 hz hv
            go_wp2_with fail
            with_reducible refine TZ.mono ?_
            rintro e w1 ⟨rfl, rfl⟩
            go_wp2
            go_ret
            exact ⟨ret_int (by have := A2.out; omega), HB.out⟩
        · have hz' : nx n p m = -1 := nx_none fun t h1 h2 => hz t h1 (by unfold nw at *; omega)
          have HZ := Lib.hid hz'
          clear hz' hz
          go_wp2
          go_ret
          exact ⟨ret_int HZ.out.symm, HB.out⟩
    · obtain ⟨a1, a2, a3⟩ := next_in hout hv
      rw [← hmk] at a2 a3
      have TZ := tz64_any (wd p k0 / 2 ^ j) (Nat.lt_of_le_of_lt (Nat.div_le_self _ _) hu) W hT
      have hv' : ((((wd p k0 / 2 ^ j : Nat) : Int)) != 0) = true := by simp; omega
      generalize Lib.ctz 64 (wd p k0 / 2 ^ j) = c at *
      generalize wd p k0 / 2 ^ j = q at *
      generalize wd p k0 = u at *
      have A3 := Lib.hid a3
      clear a3 hv hmk hT
      go_enter Tryd.func13, Tryd.ntmps13
      go_wp2_with fail
      with_reducible refine TZ.mono ?_
      rintro e w1 ⟨rfl, rfl⟩
      go_wp2
      go_ret
      exact ⟨ret_int (by have := A3.out; omega), HB.out⟩
  · rw [nx_beyond p (by omega)]
    go_enter Tryd.func13, Tryd.ntmps13
    go_wp2
    go_ret
    exact ⟨rfl, HB.out⟩
end Go.Proofs.YtooehfjappckmaaDoor
