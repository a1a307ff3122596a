/-
  What every statement of layer 10 asks first (wakes).
-/
import Derived.Test.YtmmacijhjjjkoaaGreatDoorParseFull
namespace Go.Proofs.YtmmacijhjjjkoaaGreatDoor
set_option maxRecDepth 100000
open Go.RowKit

theorem wake_yes : parseL [99, 111, 118, 101, 114, 32, 51, 32, 115, 101, 116, 32, 53, 58, 32, 48, 32, 50] = ⟨⟨3, 0, [], [], 3, [(5, [0, 2])]⟩, 0, 0, 0⟩ := by kernel_rfl
theorem wake_no : parseL [99, 111, 118, 101, 114, 32, 51, 32, 115, 101, 116, 32, 53, 58, 32, 50, 32, 50] = ⟨zIn, 1, 18, 4⟩ := by kernel_rfl

set_option maxHeartbeats 2000000 in
theorem wakes_any (w : World) (hL : LibOk w) (hW : WordsOk w) : Calls Tryz.prog 5 #[] w fun e w' => e = .returned (.bool true) ∧ Below w.heap.size w w' := by
  have P1 := parse_any ⟨#[99, 111, 118, 101, 114, 32, 51, 32, 115, 101, 116, 32, 53, 58, 32, 48, 32, 50]⟩ w hL hW
  have P2 := fun W a b => parse_any ⟨#[99, 111, 118, 101, 114, 32, 51, 32, 115, 101, 116, 32, 53, 58, 32, 50, 32, 50]⟩ W a b
  rw [show (⟨#[99, 111, 118, 101, 114, 32, 51, 32, 115, 101, 116, 32, 53, 58, 32, 48, 32, 50]⟩ : ByteArray).data.toList = [99, 111, 118, 101, 114, 32, 51, 32, 115, 101, 116, 32, 53, 58, 32, 48, 32, 50] from rfl, wake_yes] at P1
  rw [show (⟨#[99, 111, 118, 101, 114, 32, 51, 32, 115, 101, 116, 32, 53, 58, 32, 50, 32, 50]⟩ : ByteArray).data.toList = [99, 111, 118, 101, 114, 32, 51, 32, 115, 101, 116, 32, 53, 58, 32, 50, 32, 50] from rfl, wake_no] at P2
  unfold IsPs at P1 P2
  go_enter Tryz.func5, Tryz.ntmps5
  go_wp2_with fail
  with_reducible refine P1.mono ?_
  rintro e w1 ⟨v, rfl, hI, b1⟩
  obtain ⟨vi, vc, vs, uc, us, rfl, hi, hc, hs⟩ := hI.form
  obtain ⟨A0, C0, rfl, _, _⟩ := hi.form
  obtain ⟨A1, C1, rfl, _, _⟩ := hc.form
  obtain ⟨A2, C2, rfl, hC2, hM2⟩ := hs.form
  have hW1 : Below w1.heap.size w1 ((w1.alloc (.cells #[.int .i64 3, .int .i64 0, .slice A0 0 C0, .slice A1 0 C1, .int .i64 3, .slice A2 1 C2] 27)).alloc (.cells #[.int .i64 0, .int .i64 0] 29)) := (new_below _ _).alloc (by simp) _
  have I1 := ((iblk_new w1 (.int .i64 3) (.int .i64 0) (.slice A0 0 C0) (.slice A1 0 C1) (.int .i64 3) (.slice A2 1 C2) 27).next (new_below _ (.cells #[.int .i64 0, .int .i64 0] 29)))
  have hs1 := hs.next hW1
  have P3 := P2 _ (hL.below (b1.trans (hW1.mono b1.size))) (hW.next (b1.trans (hW1.mono b1.size)))
  have HB := Lib.hid (b1.trans (hW1.mono b1.size))
  clear hi hc hs hI b1 hW1 P2 P1
  go_wp2_with fail
  with_reducible refine P3.mono ?_
  rintro e w2 ⟨v2, rfl, hI2, b2⟩
  obtain ⟨B0, m0, D0, B1, m1, D1, B2, m2, D2, rfl⟩ := InV hI2
  obtain ⟨x0, x1, x2, x3, x4, x5⟩ := (I1.next b2).box
  obtain ⟨b, off, s, A', C', rfl, _, hb, hs0, hc0, hc1, _, hC', hM', hq⟩ := (hs1.next b2).get (i := 0) (by simp)
  obtain rfl : (5, [0, 2]) = s := by simpa using hs0
  have hl1 := (I1.next b2).lt
  have HB2 := Lib.hid (HB.out.trans (b2.mono (by have := HB.out.size; exact this)))
  simp only [Nat.zero_mul, Nat.add_zero] at hc0 hc1
  unfold maxLen at hM2 hM'
  clear hI2 I1 hs1 b2 HB hs0 hq P3 hL hW
  go_wp2
  go_ret
  have hz := HB2.out.size
  exact ⟨rfl, (HB2.out.alloc hz _).alloc (by simp; omega) _⟩
end Go.Proofs.YtmmacijhjjjkoaaGreatDoor
