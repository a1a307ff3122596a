/-
  NumBack: what is added is taken away again; a quotient rounded down, times the divisor, isn't above the dividend, and the next one is; rounded up it is that, or one more. For every two numbers of 64 bits.
  Conditions: none beyond the given statement's own.
-/
import Derived.Test.YtbkfmkbjfifgjaaNumWalks3
import Derived.Test.YtbkfmkbjfifgjaaLawFrame
namespace Go.Proofs.Ytbkfmkbjfifgjaa.numBack
open Go.ChangeShapes Go.WideShapes Go.ChangeAt Go.RowKit
set_option linter.unusedVariables false

theorem add_yes (a b : Int) (ha : I64 a) (hb : I64 b) (hs : I64 (a + b)) (w : World) :
    Calls Try.prog 11 #[.int .i64 a, .int .i64 b] w fun e w' => e = .returned (.tuple #[.int .i64 (a + b), .bool true]) ∧ Below w.heap.size w w' := by
  have h := add_any a b ha hb w
  rw [(fit_yes hs).1, (fit_yes hs).2] at h
  exact h
theorem add_no (a b : Int) (ha : I64 a) (hb : I64 b) (hs : ¬ I64 (a + b)) (w : World) :
    Calls Try.prog 11 #[.int .i64 a, .int .i64 b] w fun e w' => e = .returned (.tuple #[.int .i64 0, .bool false]) ∧ Below w.heap.size w w' := by
  have h := add_any a b ha hb w
  rw [(fit_no hs).1, (fit_no hs).2] at h
  exact h
theorem sub_back (a b : Int) (ha : I64 a) (hb : I64 b) (hs : I64 (a + b)) (w : World) :
    Calls Try.prog 14 #[.int .i64 (a + b), .int .i64 b] w fun e w' => e = .returned (.tuple #[.int .i64 a, .bool true]) ∧ Below w.heap.size w w' := by
  have h := sub_any (a + b) b hs hb w
  rw [show a + b - b = a by omega, (fit_yes ha).1, (fit_yes ha).2] at h
  exact h

/-! ### plain facts on the quotients -/
theorem fmod_pos {a b : Int} (hb : 0 < b) : 0 ≤ a.fmod b ∧ a.fmod b < b := by
  rw [Int.fmod_eq_emod_of_nonneg a (by omega)]; exact ⟨Int.emod_nonneg _ (by omega), Int.emod_lt_of_pos _ hb⟩
theorem fmod_neg {a b : Int} (hb : b < 0) : b < a.fmod b ∧ a.fmod b ≤ 0 := by
  have h := fmod_pos (a := -a) (b := -b) (by omega)
  rw [Int.neg_fmod_neg] at h
  omega
theorem left_eq {a b : Int} (hb0 : b ≠ 0) (hb : I64 b) : wrap64 (a - wrap64 (a.fdiv b * b)) = a.fmod b := by
  have e := Int.mul_fdiv_add_fmod a b
  have r : I64 (a.fmod b) := by
    unfold I64 at *
    rcases Int.lt_or_gt_of_ne hb0 with h | h
    · have := fmod_neg (a := a) h; omega
    · have := fmod_pos (a := a) h; omega
  rw [Int.mul_comm] at e
  obtain ⟨r0, r1⟩ := r
  generalize a.fdiv b * b = p at *
  unfold wrap64; omega
theorem cdiv_same {a b : Int} (h : a.fmod b = 0) : cdiv a b = a.fdiv b := by
  have hd : b ∣ a := Int.dvd_of_fmod_eq_zero h
  unfold cdiv
  rw [Int.fdiv_eq_tdiv, Int.fdiv_eq_tdiv, if_pos (Int.dvd_neg.2 hd), if_pos hd, Int.neg_tdiv]; omega
theorem cdiv_more {a b : Int} (hb : b ≠ 0) (h : a.fmod b ≠ 0) : cdiv a b = a.fdiv b + 1 := by
  have hd : ¬ a.tmod b = 0 := fun e => h (Int.fmod_eq_zero_of_dvd (tmod_dvd.1 e))
  by_cases hs : a < 0 ↔ b < 0
  · rw [← ceil_more hd hs hb, ← floor_same (Or.inr hs) hb]
  · rw [← ceil_same (Or.inr hs) hb, ← floor_less hd hs hb]; omega
theorem cdiv_wrap {a b : Int} (hdv : divB a b = true) (ha : I64 a) (h : a.fmod b ≠ 0) : wrap64 (a.fdiv b + 1) = cdiv a b := by
  have hb := (divB_out hdv).1
  rw [cdiv_more hb h]
  have hd : ¬ a.tmod b = 0 := fun e => h (Int.fmod_eq_zero_of_dvd (tmod_dvd.1 e))
  have hs := tdiv_small hd hb ha
  apply wrap_in
  unfold I64
  by_cases hs2 : a < 0 ↔ b < 0
  · rw [← floor_same (Or.inr hs2) hb]; omega
  · rw [← floor_less hd hs2 hb]; omega

/-! ### the walk -/
set_option maxHeartbeats 2000000 in
theorem walkA (a b : Int) (ha : I64 a) (hb : I64 b) (hs : I64 (a + b)) (w : World) :
    Calls Try.prog 7 #[.int .i64 a, .int .i64 b] w fun e w' => e = .returned (.bool true) ∧ Below w.heap.size w w' := by
  by_cases hd : divB a b = true
  · obtain ⟨hb0, _⟩ := divB_out hd
    have HL := left_eq (a := a) hb0 hb
    by_cases hm : a.fmod b = 0
    · have m1 : (a.fmod b == 0) = true := by simp [hm]
      have m2 : (a.fmod b != 0) = false := by simp [hm]
      have m3 := cdiv_same hm
      have e0 : (b == 0) = false := by simp [hb0]
      rcases Int.lt_or_gt_of_ne hb0 with hbs | hbs
      all_goals
        go_enter Try.func7, Try.ntmps7
        go_wp2_with fail
        with_reducible refine (add_yes a b ha hb hs _).mono ?_
        rintro e w1 ⟨rfl, b1⟩
        go_wp2_with fail
        with_reducible refine (sub_back a b ha hb hs _).mono ?_
        rintro e w2 ⟨rfl, b2⟩
        have b0 : Below w.heap.size w w2 := on b1 b2
        clear b1 b2
        go_wp2_with fail
        with_reducible refine (floor_yes a b hd ha _).mono ?_
        rintro e w3 ⟨rfl, rfl⟩
        go_wp2_with fail
        with_reducible refine (ceil_yes a b hd ha _).mono ?_
        rintro e w3 ⟨rfl, rfl⟩
        go_wp2_with fail
        with_reducible refine (wakes_any _).mono ?_
        rintro e w4 ⟨rfl, b4⟩
        go_wp2
        go_ret
        exact ⟨rfl, on b0 b4⟩
    · have m1 : (a.fmod b == 0) = false := by simp [hm]
      have m2 : (a.fmod b != 0) = true := by simp [hm]
      have m3 := cdiv_wrap hd ha hm
      have e0 : (b == 0) = false := by simp [hb0]
      rcases Int.lt_or_gt_of_ne hb0 with hbs | hbs
      · obtain ⟨m4, m5⟩ := fmod_neg (a := a) hbs
        have m6 : ¬ 0 < a.fmod b := by omega
        have m7 : ¬ a.fmod b ≤ b := by omega
        go_enter Try.func7, Try.ntmps7
        go_wp2_with fail
        with_reducible refine (add_yes a b ha hb hs _).mono ?_
        rintro e w1 ⟨rfl, b1⟩
        go_wp2_with fail
        with_reducible refine (sub_back a b ha hb hs _).mono ?_
        rintro e w2 ⟨rfl, b2⟩
        have b0 : Below w.heap.size w w2 := on b1 b2
        clear b1 b2
        go_wp2_with fail
        with_reducible refine (floor_yes a b hd ha _).mono ?_
        rintro e w3 ⟨rfl, rfl⟩
        go_wp2_with fail
        with_reducible refine (ceil_yes a b hd ha _).mono ?_
        rintro e w3 ⟨rfl, rfl⟩
        go_wp2_with fail
        with_reducible refine (wakes_any _).mono ?_
        rintro e w4 ⟨rfl, b4⟩
        go_wp2
        go_ret
        exact ⟨rfl, on b0 b4⟩
      · obtain ⟨m4, m5⟩ := fmod_pos (a := a) hbs
        have m6 : ¬ a.fmod b < 0 := by omega
        have m7 : ¬ b ≤ a.fmod b := by omega
        go_enter Try.func7, Try.ntmps7
        go_wp2_with fail
        with_reducible refine (add_yes a b ha hb hs _).mono ?_
        rintro e w1 ⟨rfl, b1⟩
        go_wp2_with fail
        with_reducible refine (sub_back a b ha hb hs _).mono ?_
        rintro e w2 ⟨rfl, b2⟩
        have b0 : Below w.heap.size w w2 := on b1 b2
        clear b1 b2
        go_wp2_with fail
        with_reducible refine (floor_yes a b hd ha _).mono ?_
        rintro e w3 ⟨rfl, rfl⟩
        go_wp2_with fail
        with_reducible refine (ceil_yes a b hd ha _).mono ?_
        rintro e w3 ⟨rfl, rfl⟩
        go_wp2_with fail
        with_reducible refine (wakes_any _).mono ?_
        rintro e w4 ⟨rfl, b4⟩
        go_wp2
        go_ret
        exact ⟨rfl, on b0 b4⟩
  · have hd : divB a b = false := by simpa using hd
    by_cases h0 : b = 0
    · have e0 : (b == 0) = true := by simp [h0]
      clear h0
      go_enter Try.func7, Try.ntmps7
      go_wp2_with fail
      with_reducible refine (add_yes a b ha hb hs _).mono ?_
      rintro e w1 ⟨rfl, b1⟩
      go_wp2_with fail
      with_reducible refine (sub_back a b ha hb hs _).mono ?_
      rintro e w2 ⟨rfl, b2⟩
      have b0 : Below w.heap.size w w2 := on b1 b2
      clear b1 b2
      go_wp2_with fail
      with_reducible refine (floor_no a b hd _).mono ?_
      rintro e w3 ⟨rfl, rfl⟩
      go_wp2_with fail
      with_reducible refine (ceil_no a b hd _).mono ?_
      rintro e w3 ⟨rfl, rfl⟩
      go_wp2_with fail
      with_reducible refine (wakes_any _).mono ?_
      rintro e w4 ⟨rfl, b4⟩
      go_wp2
      go_ret
      exact ⟨rfl, on b0 b4⟩
    · obtain ⟨h1, h2⟩ : a = -9223372036854775808 ∧ b = -1 := by simpa [divB, h0] using hd
      have e0 : (b == 0) = false := by simp [h0]
      have e1 : (b == -1) = true := by simp [h2]
      have e2 : (a == -9223372036854775808) = true := by simp [h1]
      clear h0 h1 h2
      go_enter Try.func7, Try.ntmps7
      go_wp2_with fail
      with_reducible refine (add_yes a b ha hb hs _).mono ?_
      rintro e w1 ⟨rfl, b1⟩
      go_wp2_with fail
      with_reducible refine (sub_back a b ha hb hs _).mono ?_
      rintro e w2 ⟨rfl, b2⟩
      have b0 : Below w.heap.size w w2 := on b1 b2
      clear b1 b2
      go_wp2_with fail
      with_reducible refine (floor_no a b hd _).mono ?_
      rintro e w3 ⟨rfl, rfl⟩
      go_wp2_with fail
      with_reducible refine (ceil_no a b hd _).mono ?_
      rintro e w3 ⟨rfl, rfl⟩
      go_wp2_with fail
      with_reducible refine (wakes_any _).mono ?_
      rintro e w4 ⟨rfl, b4⟩
      go_wp2
      go_ret
      exact ⟨rfl, on b0 b4⟩

set_option maxHeartbeats 2000000 in
theorem walkB (a b : Int) (ha : I64 a) (hb : I64 b) (hs : ¬ I64 (a + b)) (w : World) :
    Calls Try.prog 7 #[.int .i64 a, .int .i64 b] w fun e w' => e = .returned (.bool true) ∧ Below w.heap.size w w' := by
  by_cases hd : divB a b = true
  · obtain ⟨hb0, _⟩ := divB_out hd
    have HL := left_eq (a := a) hb0 hb
    by_cases hm : a.fmod b = 0
    · have m1 : (a.fmod b == 0) = true := by simp [hm]
      have m2 : (a.fmod b != 0) = false := by simp [hm]
      have m3 := cdiv_same hm
      have e0 : (b == 0) = false := by simp [hb0]
      rcases Int.lt_or_gt_of_ne hb0 with hbs | hbs
      all_goals
        go_enter Try.func7, Try.ntmps7
        go_wp2_with fail
        with_reducible refine (add_no a b ha hb hs _).mono ?_
        rintro e w2 ⟨rfl, b0⟩
        go_wp2_with fail
        with_reducible refine (floor_yes a b hd ha _).mono ?_
        rintro e w3 ⟨rfl, rfl⟩
        go_wp2_with fail
        with_reducible refine (ceil_yes a b hd ha _).mono ?_
        rintro e w3 ⟨rfl, rfl⟩
        go_wp2_with fail
        with_reducible refine (wakes_any _).mono ?_
        rintro e w4 ⟨rfl, b4⟩
        go_wp2
        go_ret
        exact ⟨rfl, on b0 b4⟩
    · have m1 : (a.fmod b == 0) = false := by simp [hm]
      have m2 : (a.fmod b != 0) = true := by simp [hm]
      have m3 := cdiv_wrap hd ha hm
      have e0 : (b == 0) = false := by simp [hb0]
      rcases Int.lt_or_gt_of_ne hb0 with hbs | hbs
      · obtain ⟨m4, m5⟩ := fmod_neg (a := a) hbs
        have m6 : ¬ 0 < a.fmod b := by omega
        have m7 : ¬ a.fmod b ≤ b := by omega
        go_enter Try.func7, Try.ntmps7
        go_wp2_with fail
        with_reducible refine (add_no a b ha hb hs _).mono ?_
        rintro e w2 ⟨rfl, b0⟩
        go_wp2_with fail
        with_reducible refine (floor_yes a b hd ha _).mono ?_
        rintro e w3 ⟨rfl, rfl⟩
        go_wp2_with fail
        with_reducible refine (ceil_yes a b hd ha _).mono ?_
        rintro e w3 ⟨rfl, rfl⟩
        go_wp2_with fail
        with_reducible refine (wakes_any _).mono ?_
        rintro e w4 ⟨rfl, b4⟩
        go_wp2
        go_ret
        exact ⟨rfl, on b0 b4⟩
      · obtain ⟨m4, m5⟩ := fmod_pos (a := a) hbs
        have m6 : ¬ a.fmod b < 0 := by omega
        have m7 : ¬ b ≤ a.fmod b := by omega
        go_enter Try.func7, Try.ntmps7
        go_wp2_with fail
        with_reducible refine (add_no a b ha hb hs _).mono ?_
        rintro e w2 ⟨rfl, b0⟩
        go_wp2_with fail
        with_reducible refine (floor_yes a b hd ha _).mono ?_
        rintro e w3 ⟨rfl, rfl⟩
        go_wp2_with fail
        with_reducible refine (ceil_yes a b hd ha _).mono ?_
        rintro e w3 ⟨rfl, rfl⟩
        go_wp2_with fail
        with_reducible refine (wakes_any _).mono ?_
        rintro e w4 ⟨rfl, b4⟩
        go_wp2
        go_ret
        exact ⟨rfl, on b0 b4⟩
  · have hd : divB a b = false := by simpa using hd
    by_cases h0 : b = 0
    · have e0 : (b == 0) = true := by simp [h0]
      clear h0
      go_enter Try.func7, Try.ntmps7
      go_wp2_with fail
      with_reducible refine (add_no a b ha hb hs _).mono ?_
      rintro e w2 ⟨rfl, b0⟩
      go_wp2_with fail
      with_reducible refine (floor_no a b hd _).mono ?_
      rintro e w3 ⟨rfl, rfl⟩
      go_wp2_with fail
      with_reducible refine (ceil_no a b hd _).mono ?_
      rintro e w3 ⟨rfl, rfl⟩
      go_wp2_with fail
      with_reducible refine (wakes_any _).mono ?_
      rintro e w4 ⟨rfl, b4⟩
      go_wp2
      go_ret
      exact ⟨rfl, on b0 b4⟩
    · obtain ⟨h1, h2⟩ : a = -9223372036854775808 ∧ b = -1 := by simpa [divB, h0] using hd
      have e0 : (b == 0) = false := by simp [h0]
      have e1 : (b == -1) = true := by simp [h2]
      have e2 : (a == -9223372036854775808) = true := by simp [h1]
      clear h0 h1 h2
      go_enter Try.func7, Try.ntmps7
      go_wp2_with fail
      with_reducible refine (add_no a b ha hb hs _).mono ?_
      rintro e w2 ⟨rfl, b0⟩
      go_wp2_with fail
      with_reducible refine (floor_no a b hd _).mono ?_
      rintro e w3 ⟨rfl, rfl⟩
      go_wp2_with fail
      with_reducible refine (ceil_no a b hd _).mono ?_
      rintro e w3 ⟨rfl, rfl⟩
      go_wp2_with fail
      with_reducible refine (wakes_any _).mono ?_
      rintro e w4 ⟨rfl, b4⟩
      go_wp2
      go_ret
      exact ⟨rfl, on b0 b4⟩

theorem walk (a b : Int) (ha : I64 a) (hb : I64 b) (w : World) :
    Calls Try.prog 7 #[.int .i64 a, .int .i64 b] w fun e w' => e = .returned (.bool true) ∧ Below w.heap.size w w' := by
  by_cases hs : I64 (a + b)
  · exact walkA a b ha hb hs w
  · exact walkB a b ha hb hs w

/-! ### the row -/
set_option maxRecDepth 100000 in
theorem lifted (os : Os) (started : os.Started) (H : Type) (enc : TypeId × Value → H) :
    ReturnsInHanded {} Try.checked os 7 .any (Rows.numBackSpec.pre6 enc Try.prog Try.f7 Rows.numBackRow.domain false) (Rows.numBackSpec.post enc Try.prog Try.f7 false true false false) := by
  refine returnsInHanded_of_change (C := Try.checked) own started (by kernel_rfl) Try.func7
    (ChangeSpec.witness6 (enc := enc) (C := Try.checked) false ⟨#[], #[.int .i64 0, .int .i64 0], []⟩ 8 (by kernel_rfl) (by kernel_rfl) (by kernel_rfl) (by kernel_rfl)) ?_
  intro W base args ds gs before hval0 hW hcnd _
  have hval : ∀ (j : Nat) t v, Try.f7.params[j]? = some t → args[j]? = some v → Value.okWide Try.prog W .any base t v := hval0
  have hW' := hW
  obtain ⟨p, q, hA0, hV, rfl, hfz, hnd⟩ := hW
  have hA : DataW.TrodAll enc Try.prog W 0 (fun _ => true) true Try.f7.params.toList args.toList ds p := hA0
  rw [Try.params7] at hA hval
  obtain ⟨v0, vs0, d0, ds0, p0, q0, hargs, rfl, rfl, h0, r0⟩ := trodAll_cons hA
  obtain ⟨v1, vs1, d1, ds1, p1, q1, rfl, rfl, rfl, h1, r1⟩ := trodAll_cons r0
  obtain ⟨rfl, rfl, rfl⟩ := trodAll_nil r1
  obtain rfl : args = #[v0, v1] := by cases args; simp_all
  obtain ⟨rfl, rfl⟩ := trodVars_none hV
  have k0 := h0
  have lt0 : ∀ x ∈ p0, x.block < W.heap.size := by obtain ⟨m, hm⟩ := k0; exact DataW.trod_lt m _ _ _ hm
  obtain ⟨a0, w0, rfl⟩ := open_num (hval 0 2 v0 rfl rfl) h0
  have k1 := h1
  have lt1 : ∀ x ∈ p1, x.block < W.heap.size := by obtain ⟨m, hm⟩ := k1; exact DataW.trod_lt m _ _ _ hm
  obtain ⟨a1, w1, rfl⟩ := open_num (hval 1 2 v1 rfl rfl) h1
  clear hA0 hval0
  refine (walk a0 a1 w0 w1 W).mono fun e W' ⟨he, bel⟩ => ?_
  subst he
  exact ⟨_, rfl, _, _, _, [], _, [], hW', trodAll_mk1 (shut_bool Try.underlying4 _), (trodAll_cons_mk (Below.trod laidOut (by kernel_rfl) (of_decide_eq_true (by kernel_rfl)) k0 bel lt0) (trodAll_cons_mk (Below.trod laidOut (by kernel_rfl) (of_decide_eq_true (by kernel_rfl)) k1 bel lt1) trodAll_mk0)), rfl, bel.frame _, fun h => by cases h⟩

theorem over : Rows.numBackRow.holds Try.pinned (OpenSpec.ofChange Rows.numBackSpec) :=
  OpenClaim.holds_of_wide 7 Try.f7 rfl rfl rfl rfl rfl rfl rfl ⟨rfl, rfl, rfl, rfl, rfl⟩ rfl rfl rfl rfl rfl (by kernel_rfl) Try.func7 (by kernel_rfl)
    (of_decide_eq_true (by kernel_rfl)) (by unfold Func.isWrapper; first | (rw [if_pos (by decide +kernel)]; kernel_rfl) | (rw [if_neg (by decide +kernel)]; exact ⟨rfl, rfl⟩))
    (fun os started H enc _ => lifted os started H enc)

end Go.Proofs.Ytbkfmkbjfifgjaa.numBack
namespace Go.Proofs.Ytbkfmkbjfifgjaa
theorem numBack_holds : Rows.NumBackSaid := numBack.over
#print axioms numBack_holds
end Go.Proofs.Ytbkfmkbjfifgjaa
