/-
  What the laws' 'wakes' does: it answers true.
-/
import Derived.Test.YtooehfjappckmaaDoorWithoutWalks
namespace Go.Proofs.YtooehfjappckmaaDoor
set_option maxRecDepth 100000
open Go.RowKit

def five : Nat → Bool := fun i => decide (i < 5)
def four : Nat → Bool := put 5 five 2 false

set_option maxHeartbeats 2000000 in
theorem wakes_any (w : World) (hL : LibOk w) : Calls Tryd.prog 14 #[] w fun e w' => e = .returned (.bool true) ∧ Below w.heap.size w w' := by
  have FU : ∀ w, Calls Tryd.prog 9 #[.int .i64 5] w fun e w' => (∃ x cap, e = .returned (.tuple #[.agg #[.int .i64 5, .slice x (nw 5) cap], .int .i64 0]) ∧ SetAt w' 5 five x cap) ∧ Below w.heap.size w w' := fun w => full_good 5 (by omega) w
  have WI : ∀ x cap w, SetAt w 5 five x cap → Calls Tryd.prog 18 #[.agg #[.int .i64 5, .slice x (nw 5) cap], .int .i64 2] w fun e w' => (∃ x' c', e = .returned (.agg #[.int .i64 5, .slice x' (nw 5) c']) ∧ SetAt w' 5 four x' c') ∧ Below w.heap.size w w' := fun x cap w h => without_any 5 x cap five 2 w h
  have NE : ∀ x cap w, SetAt w 5 four x cap → LibOk w → Calls Tryd.prog 13 #[.agg #[.int .i64 5, .slice x (nw 5) cap], .int .i64 2] w fun e w' => e = .returned (.int .i64 3) ∧ Below w.heap.size w w' := by
    intro x cap w h hL
    have := next_any 5 x cap four 2 w h hL
    rw [show nxI 5 four 2 = 3 by decide] at this
    exact this
  have HA : ∀ x cap w, SetAt w 5 five x cap → Calls Tryd.prog 12 #[.agg #[.int .i64 5, .slice x (nw 5) cap], .int .i64 2] w fun e w' => e = .returned (.bool true) ∧ Below w.heap.size w w' := by
    intro x cap w h
    have := has_any 5 x cap five 2 w h
    rw [show has five 2 = true by decide] at this
    exact this
  have CO : ∀ x cap w, SetAt w 5 four x cap → Calls Tryd.prog 11 #[.agg #[.int .i64 5, .slice x (nw 5) cap]] w fun e w' => e = .returned (.int .i64 4) ∧ Below w.heap.size w w' := by
    intro x cap w h
    have := count_any (.int .i64 5) 5 x cap four w h
    rw [show cnt four 5 = 4 by decide] at this
    exact this
  have SI : ∀ s w, Calls Tryd.prog 10 #[.agg #[.int .i64 5, s]] w fun e w' => e = .returned (.int .i64 5) ∧ Below w.heap.size w w' := fun s w => size_any 5 s w
  have HL := Lib.hid hL
  clear hL
  go_enter Tryd.func14, Tryd.ntmps14
  go_wp2_with fail
  with_reducible refine (FU _).mono ?_
  rintro e w1 ⟨⟨x, c, rfl, S1⟩, b1⟩
  have b1' := on b1 (one_below w1 (.cells #[.int .i64 5, .slice x (nw 5) c] 25))
  have S1 := S1.below (one_below w1 (.cells #[.int .i64 5, .slice x (nw 5) c] 25))
  have T1 := sbox_new w1 (.int .i64 5) (.slice x (nw 5) c) 25
  have L1 := HL.out.below b1'
  have hs1 := T1.size
  have HS1 := Lib.hid S1
  have HL1 := Lib.hid L1
  have HB1 := Lib.hid b1'
  have HT1 := Lib.hid T1
  clear S1 L1 b1' b1 T1 HL FU
  go_wp2_with fail
  with_reducible refine (WI _ _ _ HS1.out).mono ?_
  rintro e w2 ⟨⟨x2, c2, rfl, S2⟩, b2⟩
  have T1 := (HT1.out.next b2).next (one_below w2 (.cells #[.int .i64 5, .slice x2 (nw 5) c2] 25))
  have b2' := on b2 (one_below w2 (.cells #[.int .i64 5, .slice x2 (nw 5) c2] 25))
  have T2 := sbox_new w2 (.int .i64 5) (.slice x2 (nw 5) c2) 25
  have HSB := Lib.hid (S2.below (one_below w2 (.cells #[.int .i64 5, .slice x2 (nw 5) c2] 25)))
  have HSA := Lib.hid (HS1.out.below b2')
  have HL2 := Lib.hid (HL1.out.below b2')
  have HB2 := Lib.hid (on HB1.out b2')
  have HT1 := Lib.hid T1
  have HT2 := Lib.hid T2
  clear T1 b2' b2 T2 S2 WI HL1 HB1 HS1 hs1
  go_wp2_with fail
  with_reducible refine (NE _ _ _ HSB.out HL2.out).mono ?_
  rintro e w3 ⟨rfl, b3⟩
  have HSB := Lib.hid (HSB.out.below b3)
  have HSA := Lib.hid (HSA.out.below b3)
  have HB3 := Lib.hid (on HB2.out b3)
  have HT1 := Lib.hid (HT1.out.next b3)
  have HT2 := Lib.hid (HT2.out.next b3)
  obtain ⟨t0, t1, t2, t3, t4⟩ := HT1.out
  obtain ⟨u0, u1, u2, u3, u4⟩ := HT2.out
  clear b3 HB2 HL2 NE
  go_wp2_with fail
  with_reducible refine (HA _ _ _ HSA.out).mono ?_
  rintro e w4 ⟨rfl, b4⟩
  have HSB := Lib.hid (HSB.out.below b4)
  have HB4 := Lib.hid (on HB3.out b4)
  have HT2 := Lib.hid (HT2.out.next b4)
  clear t0 t1 t2 t3 t4 u0 u1 u2 u3 u4
  obtain ⟨u0, u1, u2, u3, u4⟩ := HT2.out
  clear b4 HA HSA HB3
  go_wp2_with fail
  with_reducible refine (CO _ _ _ HSB.out).mono ?_
  rintro e w5 ⟨rfl, b5⟩
  have HB5 := Lib.hid (on HB4.out b5)
  have HT2 := Lib.hid (HT2.out.next b5)
  clear u0 u1 u2 u3 u4
  obtain ⟨u0, u1, u2, u3, u4⟩ := HT2.out
  clear b5 CO HSB HB4
  go_wp2_with fail
  with_reducible refine (SI _ _).mono ?_
  rintro e w6 ⟨rfl, b6⟩
  have HB6 := Lib.hid (on HB5.out b6)
  clear b6 HB5
  go_wp2
  go_ret
  exact ⟨rfl, HB6.out⟩
end Go.Proofs.YtooehfjappckmaaDoor
