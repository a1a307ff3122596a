/-
  What the document's Simplest does, of small numbers: Den by Den.
-/
import Derived.Test.YtjaabjehegcnaaaDoorSimpleMath
import Derived.Test.YtjaabjehegcnaaaDoorRefWalks2
namespace Go.Proofs.YtjaabjehegcnaaaDoor
set_option maxRecDepth 100000
open Go.RowKit

theorem bound_mul {a k : Int} (h1 : -32768 ≤ a) (h2 : a ≤ 32768) (k0 : 0 < k) (k1 : k ≤ 400) : -13107200 ≤ a * k ∧ a * k ≤ 13107200 := by
  have e1 : a * k ≤ 32768 * k := Int.mul_le_mul_of_nonneg_right h2 (by omega)
  have e2 : -32768 * k ≤ a * k := Int.mul_le_mul_of_nonneg_right h1 (by omega)
  omega
theorem floor_at (n d : Int) (up : Bool) (hn : I64 n) (hd : I64 d) (d0 : 0 < d) (w : World) :
    Calls Tryd.prog 46 #[.int .i64 n, .int .i64 d, .bool up] w fun e w' => e = .returned (.tuple #[.int .i64 (if up then cdiv n d else n.fdiv d), .bool true]) ∧ Below w.heap.size w w' := by
  have F := rfloor_any n d up hn hd (by omega) w
  have hi : I64 (if up = true then cdiv n d else n.fdiv d) := by
    cases up
    · exact fdiv_in (div_of_pos d0) hn
    · exact cdiv_in d0 hn
  rw [(fit_yes hi).1, (fit_yes hi).2] at F
  exact F

set_option maxHeartbeats 4000000 in
theorem rsimp_loop (a b c d v n m : Int) (h1 : Small a b) (h2 : Small c d) (b0 : 0 < b) (d0 : 0 < d) (hF : Found a b c d n m) (hm : m < 300)
    (G1 : ∀ w, Calls Tryd.prog 15 #[.int .i64 a, .int .i64 b] w fun e w' => e = .returned (.bool true) ∧ Below w.heap.size w w') (G2 : ∀ w, Calls Tryd.prog 15 #[.int .i64 c, .int .i64 d] w fun e w' => e = .returned (.bool true) ∧ Below w.heap.size w w')
    (C : ∀ w, Calls Tryd.prog 19 #[.int .i64 a, .int .i64 b, .int .i64 c, .int .i64 d] w fun e w' => e = .returned (.int .i64 v) ∧ Below w.heap.size w w') (v0 : v ≤ 0) (w : World) :
    Calls Tryd.prog 36 #[.int .i64 a, .int .i64 b, .int .i64 c, .int .i64 d, .int .i64 400] w fun e w' => e = .returned (.tuple #[.int .i64 n, .int .i64 m, .bool true]) ∧ Below w.heap.size w w' := by
  have v0' : decide (0 < v) = false := by simp; omega
  have H1 := Lib.hid h1
  have H2 := Lib.hid h2
  have HF := Lib.hid hF
  have m0 := hF.m0
  clear h1 h2 hF
  go_enter Tryd.func36, Tryd.ntmps36
  go_wp2_with fail
  with_reducible refine (G1 _).mono ?_
  rintro e w1 ⟨rfl, b1⟩
  go_wp2_with fail
  with_reducible refine (G2 _).mono ?_
  rintro e w2 ⟨rfl, b2⟩
  go_wp2_with fail
  with_reducible refine (C _).mono ?_
  rintro e w3 ⟨rfl, b3⟩
  have HB := Lib.hid (on (on b1 b2) b3)
  clear b1 b2 b3 G1 G2 C
  go_wp2_with fail
  go_loopw [16] (fun i wr => ∃ k : Int, 0 < k ∧ k ≤ m ∧ i = .int .i64 k ∧ Below w.heap.size w wr) (fun i _ => (m - intOf i).toNat)
  case atStart => exact ⟨1, by omega, by omega, rfl, HB.out⟩
  case round =>
    obtain ⟨k, k0, k1, rfl, hb⟩ := hrel
    have hB := Lib.hid hb
    clear hb HB
    have q1 : -13107200 ≤ a * k ∧ a * k ≤ 13107200 := bound_mul H1.out.1 H1.out.2.1 k0 (by omega)
    have q2 : -13107200 ≤ c * k ∧ c * k ≤ 13107200 := bound_mul H2.out.1 H2.out.2.1 k0 (by omega)
    have ib := (small_in H1.out).2
    have id := (small_in H2.out).2
    have F1 := floor_at (a * k) b true (by unfold I64; omega) ib b0
    have F2 := floor_at (c * k) d false (by unfold I64; omega) id d0
    rw [show (if (true : Bool) = true then cdiv (a * k) b else (a * k).fdiv b) = cdiv (a * k) b from rfl] at F1
    rw [show (if (false : Bool) = true then cdiv (c * k) d else (c * k).fdiv d) = (c * k).fdiv d from rfl] at F2
    obtain ⟨q3, q4⟩ := q1
    obtain ⟨q5, q6⟩ := q2
    have t1 : k ≤ 400 := by omega
    have t2 : k + 1 ≤ 9223372036854775807 := by omega
    obtain ⟨lo, hlo⟩ : ∃ x, cdiv (a * k) b = x := ⟨_, rfl⟩
    obtain ⟨hi, hhi⟩ : ∃ x, (c * k).fdiv d = x := ⟨_, rfl⟩
    by_cases hlt : k < m
    · have hbf := HF.out.before k k0 hlt
      rw [hlo] at F1 hbf
      rw [hhi] at F2 hbf
      clear hlo hhi
      go_wp2_with fail
      with_reducible refine (F1 _).mono ?_
      rintro e w4 ⟨rfl, b4⟩
      go_wp2_with fail
      with_reducible refine (F2 _).mono ?_
      rintro e w5 ⟨rfl, b5⟩
      have HB5 := Lib.hid (on (on hB.out b4) b5)
      clear hB b4 b5 F1 F2
      go_wp2
      go_roundw
      case rel => exact ⟨k + 1, by omega, by omega, rfl, HB5.out⟩
      case measure => simp [intOf]; omega
    · obtain rfl : k = m := by omega
      have hth := HF.out.there
      have hwh := HF.out.which
      rw [hlo, hhi] at hth hwh
      rw [hlo] at F1
      rw [hhi] at F2
      clear hlo hhi HF
      have nlt : decide (hi < lo) = false := by simp; omega
      rcases hwh with ⟨z1, z2, z3, z4⟩ | ⟨z1, z2⟩ | ⟨z1, z2, z3⟩
      · have EQ := Lib.hid (And.intro z3 z4)
        clear z3 z4
        go_wp2_with fail
        with_reducible refine (F1 _).mono ?_
        rintro e w4 ⟨rfl, b4⟩
        go_wp2_with fail
        with_reducible refine (F2 _).mono ?_
        rintro e w5 ⟨rfl, b5⟩
        have HB5 := Lib.hid (on (on hB.out b4) b5)
        clear hB b4 b5 F1 F2
        go_wp2
        refine bodyPost_ret (v := .tuple #[.int .i64 0, .int .i64 1, .bool true]) (by simp [results, Tryd.results36, go_sem]) rfl ⟨?_, HB5.out⟩
        rw [EQ.out.1, EQ.out.2]
      · have EQ := Lib.hid z2
        have g1 : decide (lo ≤ 0) = false := by simp; omega
        clear z2
        go_wp2_with fail
        with_reducible refine (F1 _).mono ?_
        rintro e w4 ⟨rfl, b4⟩
        go_wp2_with fail
        with_reducible refine (F2 _).mono ?_
        rintro e w5 ⟨rfl, b5⟩
        have HB5 := Lib.hid (on (on hB.out b4) b5)
        clear hB b4 b5 F1 F2
        go_wp2
        refine bodyPost_ret (v := .tuple #[.int .i64 lo, .int .i64 k, .bool true]) (by simp [results, Tryd.results36, go_sem]) rfl ⟨?_, HB5.out⟩
        rw [EQ.out]
      · have EQ := Lib.hid z3
        have g1 : decide (0 < lo) = false := by simp; omega
        have g2 : decide (0 ≤ hi) = false := by simp; omega
        clear z3
        go_wp2_with fail
        with_reducible refine (F1 _).mono ?_
        rintro e w4 ⟨rfl, b4⟩
        go_wp2_with fail
        with_reducible refine (F2 _).mono ?_
        rintro e w5 ⟨rfl, b5⟩
        have HB5 := Lib.hid (on (on hB.out b4) b5)
        clear hB b4 b5 F1 F2
        go_wp2
        refine bodyPost_ret (v := .tuple #[.int .i64 hi, .int .i64 k, .bool true]) (by simp [results, Tryd.results36, go_sem]) rfl ⟨?_, HB5.out⟩
        rw [EQ.out]

theorem rsimp_none (a b c d v : Int) 
    (G1 : ∀ w, Calls Tryd.prog 15 #[.int .i64 a, .int .i64 b] w fun e w' => e = .returned (.bool true) ∧ Below w.heap.size w w') (G2 : ∀ w, Calls Tryd.prog 15 #[.int .i64 c, .int .i64 d] w fun e w' => e = .returned (.bool true) ∧ Below w.heap.size w w')
    (C : ∀ w, Calls Tryd.prog 19 #[.int .i64 a, .int .i64 b, .int .i64 c, .int .i64 d] w fun e w' => e = .returned (.int .i64 v) ∧ Below w.heap.size w w') (v0 : 0 < v) (w : World) :
    Calls Tryd.prog 36 #[.int .i64 a, .int .i64 b, .int .i64 c, .int .i64 d, .int .i64 400] w fun e w' => e = .returned (.tuple #[.int .i64 0, .int .i64 0, .bool false]) ∧ Below w.heap.size w w' := by
  go_enter Tryd.func36, Tryd.ntmps36
  go_wp2_with fail
  with_reducible refine (G1 _).mono ?_
  rintro e w1 ⟨rfl, b1⟩
  go_wp2_with fail
  with_reducible refine (G2 _).mono ?_
  rintro e w2 ⟨rfl, b2⟩
  go_wp2_with fail
  with_reducible refine (C _).mono ?_
  rintro e w3 ⟨rfl, b3⟩
  go_wp2
  exact bodyPost_ret (v := .tuple #[.int .i64 0, .int .i64 0, .bool false]) (by simp [results, Tryd.results36, go_sem]) rfl ⟨rfl, on (on b1 b2) b3⟩

theorem rsimp_any (a b c d : Int) (h1 : Small a b) (h2 : Small c d) (g1 : goodB a b = true) (g2 : goodB c d = true) (w : World) :
    Calls Tryd.prog 36 #[.int .i64 a, .int .i64 b, .int .i64 c, .int .i64 d, .int .i64 400] w fun e w' => e = .returned (.tuple #[.int .i64 (smpN a b c d), .int .i64 (smpD a b c d), .bool (smpB a b c d)]) ∧ Below w.heap.size w w' := by
  obtain ⟨ia, ib⟩ := small_in h1
  obtain ⟨ic, id⟩ := small_in h2
  have G1 := rgood_any a b ia ib
  have G2 := rgood_any c d ic id
  rw [g1] at G1
  rw [g2] at G2
  have C := rrcmp_any a b c d ia ib ic id
  by_cases h3 : rcm a b c d ≤ 0
  · have hB := small_smp h1 h2 g1 g2 h3
    rw [hB]
    have hN := near_of hB
    exact rsimp_loop a b c d _ _ _ h1 h2 (good_out g1).1 (good_out g2).1 (found_of hB) (by have := hN.den1; have := h1.2.2.2; omega) G1 G2 C h3 w
  · have hB : smpB a b c d = false := by
      have k3 : decide (rcm a b c d ≤ 0) = false := by simpa using h3
      unfold smpB; rw [k3]; simp
    rw [(smp_no hB).1, (smp_no hB).2, hB]
    exact rsimp_none a b c d _ G1 G2 C (by omega) w
end Go.Proofs.YtjaabjehegcnaaaDoor
