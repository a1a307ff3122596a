/-
  What Without does.
-/
import Derived.Test.YtooehfjappckmaaDoorWithWalks
namespace Go.Proofs.YtooehfjappckmaaDoor
set_option maxRecDepth 100000
open Go.RowKit

set_option maxHeartbeats 2000000 in
theorem without_any (n : Nat) (x : Option Addr) (cap : Nat) (p : Nat → Bool) (i : Int) (w : World) (h : SetAt w n p x cap) :
    Calls Tryd.prog 18 #[.agg #[.int .i64 n, .slice x (nw n) cap], .int .i64 i] w fun e w' => (∃ x' c', e = .returned (.agg #[.int .i64 n, .slice x' (nw n) c']) ∧ SetAt w' n (put n p i false) x' c') ∧ Below w.heap.size w w' := by
  have H := holds_any n (.slice x (nw n) cap) i
  have hX : SBox w.heap.size (.int .i64 n) (.slice x (nw n) cap) ((w.alloc (.cells #[.int .i64 n, .slice x (nw n) cap] 25)).alloc (.cells #[.int .i64 0, .slice none 0 0] 25)) := (sbox_new _ _ _ _).next (one_below _ _)
  have hY : SBox (w.heap.size + 1) (.int .i64 0) (.slice none 0 0) ((w.alloc (.cells #[.int .i64 n, .slice x (nw n) cap] 25)).alloc (.cells #[.int .i64 0, .slice none 0 0] 25)) := by
    have := sbox_new (w.alloc (.cells #[.int .i64 n, .slice x (nw n) cap] 25)) (.int .i64 0) (.slice none 0 0) 25
    rw [World.size_alloc] at this
    exact this
  have B2 : Below w.heap.size w ((w.alloc (.cells #[.int .i64 n, .slice x (nw n) cap] 25)).alloc (.cells #[.int .i64 0, .slice none 0 0] 25)) := on (one_below _ _) (one_below _ _)
  have HX := Lib.hid hX
  have HY := Lib.hid hY
  have HB2 := Lib.hid B2
  clear hX hY B2
  by_cases hi : 0 ≤ i ∧ i < n
  · rw [decide_eq_true hi] at H
    obtain ⟨h0, h1⟩ := hi
    obtain ⟨m, rfl⟩ := Int.eq_ofNat_of_zero_le h0
    have hmn : m < n := by omega
    obtain ⟨b, rfl, hb⟩ := hlt_cell h hmn
    have hle := h.le
    have hout := h.out
    have hN := nw_le hle
    have hk : m / 64 < nw n := nw_at hmn
    have CP := fun W hW => copied_any n b cap p (by omega) W hW
    have hu := wd_lt p (m / 64)
    have hp : (2 : Nat) ^ (m % 64) < 18446744073709551616 := Nat.pow_lt_pow_right (n := 64) (by omega) (by omega)
    have FW := Lib.hid (without_word (p := p) hmn)
    have ha := u64_andNot_nat (wd p (m / 64)) (2 ^ (m % 64)) hu hp
    have hg := wds_get p hk
    have e1 : ((m : Nat) : Int) / 64 = ((m / 64 : Nat) : Int) := by omega
    have e2 : ((m : Nat) : Int) % 64 = ((m % 64 : Nat) : Int) := by omega
    have e3 : IntKind.u64.wrap ((2 : Int) ^ (m % 64)) = ((2 ^ (m % 64) : Nat) : Int) := by
      rw [IntKind.wrap_u64, show (2 : Int) ^ (m % 64) = ((2 ^ (m % 64) : Nat) : Int) by simp]; exact Int.emod_eq_of_lt (Int.natCast_nonneg _) (Int.ofNat_lt.2 hp)
    have hj : m % 64 < 64 := by omega
    generalize wd p (m / 64) &&& (18446744073709551615 - 2 ^ (m % 64)) = v at *
    generalize wd p (m / 64) = u at *
    generalize 2 ^ (m % 64) = P at *
    generalize m / 64 = k at *
    generalize m % 64 = j at *
    have HS := Lib.hid h
    have Hle := Lib.hid hle
    have Hout := Lib.hid hout
    clear h hle hout hp h0 h1
    go_enter Tryd.func18, Tryd.ntmps18
    go_wp2_with fail
    with_reducible refine (H _).mono ?_
    rintro e w1 ⟨rfl, b1⟩
    have X1 := HX.out.next b1
    have Y1 := Lib.hid (HY.out.next b1)
    have B1 := Lib.hid (on HB2.out b1)
    have S1 := Lib.hid (HS.out.below B1.out)
    obtain ⟨x0, x1, x2, x3, x4⟩ := X1
    clear HX HY HB2 b1 HS H
    go_wp2_with fail
    with_reducible refine (CP _ S1.out).mono ?_
    rintro e w2 ⟨g, c, rfl, O2, b2⟩
    have Y2 := Lib.hid (Y1.out.next b2)
    have B2 := Lib.hid (on B1.out b2)
    have hgl := O2.lt
    have hw1 := B1.out.size
    have hY1 := Y1.out.size
    obtain ⟨hc1, hc2⟩ := O2.max
    unfold maxLen at hc2
    have hne : w2.heap.size ≠ g := by omega
    have O3 := O2.next (one_below w2 (.cells #[.int .i64 n, .slice (some ⟨g, 0, none⟩) (nw n) c] 25))
    have hc := O3.get hk
    rw [hg] at hc
    have hf := O3.frozen k
    have es : (w2.setCell ⟨g, k, none⟩ (.int .u64 (v : Int))).heap.size = w2.heap.size := by simp [World.setCell]
    have T4 := sbox_new (w2.setCell ⟨g, k, none⟩ (.int .u64 (v : Int))) (.int .i64 n) (.slice (some ⟨g, 0, none⟩) (nw n) c) 25
    rw [es] at T4
    have HT4 := Lib.hid T4.drew
    have HY4 := Lib.hid ((Y2.out.other (g := g) (j := k) (z := .int .u64 (v : Int)) (by omega)).next (one_below _ (.cells #[.int .i64 n, .slice (some ⟨g, 0, none⟩) (nw n) c] 25))).drew
    have HO4 := Lib.hid (OwnC.kept (w' := ((w2.setCell ⟨g, k, none⟩ (.int .u64 (v : Int))).alloc (.cells #[.int .i64 n, .slice (some ⟨g, 0, none⟩) (nw n) c] 25)).drew) ((O2.put k v rfl).next (one_below _ _)) rfl)
    have HB4 := Lib.hid ((B2.out.setCell (p := ⟨g, k, none⟩) (show w.heap.size ≤ g by omega) (.int .u64 (v : Int))).alloc (by rw [es]; have := B2.out.size; omega) (.cells #[.int .i64 n, .slice (some ⟨g, 0, none⟩) (nw n) c] 25)).drew
    have HG := Lib.hid hgl
    clear x0 x1 x2 x3 x4 b2 O2 O3 S1 CP hg Y1 Y2 B1 B2 T4 es
    go_wp2
    go_region
    all_goals
      generalize ((w2.setCell ⟨g, k, none⟩ (.int .u64 (v : Int))).alloc (.cells #[.int .i64 n, .slice (some ⟨g, 0, none⟩) (nw n) c] 25)).drew = W4 at *
      obtain ⟨t0, t1, t2, t3, t4⟩ := HT4.out
      obtain ⟨y0, y1, y2, y3, y4⟩ := HY4.out
      clear hc hf
      go_wp2
      refine bodyPost_ret (v := .agg #[.int .i64 n, .slice (some ⟨g, 0, none⟩) (nw n) c]) (by simp [results, Tryd.results18, go_sem, y0, y1]) rfl ⟨⟨_, _, rfl, Hle.out, put_out Hout.out _ _, ?_⟩, store_below HB4.out (by omega) _ _⟩
      exact (OwnC.kept HO4.out (heap_store _ _ _ (by omega))).words FW.out
  · rw [decide_eq_false hi] at H
    rw [put_beyond (by omega)]
    have HS := Lib.hid h
    clear h hi
    go_enter Tryd.func18, Tryd.ntmps18
    go_wp2_with fail
    with_reducible refine (H _).mono ?_
    rintro e w1 ⟨rfl, b1⟩
    have X1 := HX.out.next b1
    have Y1 := HY.out.next b1
    have B1 := Lib.hid (on HB2.out b1)
    obtain ⟨x0, x1, x2, x3, x4⟩ := X1
    obtain ⟨y0, y1, y2, y3, y4⟩ := Y1
    clear HX HY HB2 b1 H
    go_wp2
    exact bodyPost_ret (v := .agg #[.int .i64 n, .slice x (nw n) cap]) (by simp [results, Tryd.results18, go_sem, y0, y1]) rfl ⟨⟨x, cap, rfl, HS.out.below (store_below B1.out (by omega) _ _)⟩, store_below B1.out (by omega) _ _⟩
end Go.Proofs.YtooehfjappckmaaDoor
