/-
  NumQuotients: every quotient of two numbers of 64 bits, rounded down and up, and every greatest common divisor, is the document's, or there is none.
  Conditions: none beyond the given statement's own.
-/
import Derived.Test.YtbkfmkbjfifgjaaQuoWalks2
import Derived.Test.YtbkfmkbjfifgjaaLawFrame
namespace Go.Proofs.Ytbkfmkbjfifgjaa.numQuotients
open Go.ChangeShapes Go.WideShapes Go.ChangeAt Go.RowKit
set_option linter.unusedVariables false

theorem cdiv_in {a b : Int} (h : divB a b = true) (ha : I64 a) : I64 (cdiv a b) := by
  by_cases h1 : a.tmod b = 0
  · rw [← ceil_same (Or.inl h1) (divB_out h).1]; exact tdiv_in h ha
  · by_cases h2 : a < 0 ↔ b < 0
    · rw [← ceil_more h1 h2 (divB_out h).1]; have := tdiv_small h1 (divB_out h).1 ha; unfold I64; omega
    · rw [← ceil_same (Or.inr h2) (divB_out h).1]; exact tdiv_in h ha
theorem rfloor_down (a b : Int) (h : divB a b = true) (ha : I64 a) (hb : I64 b) (w : World) :
    Calls Try.prog 23 #[.int .i64 a, .int .i64 b, .bool false] w fun e w' => e = .returned (.tuple #[.int .i64 (a.fdiv b), .bool true]) ∧ Below w.heap.size w w' := by
  have k := rfloor_any a b false ha hb (divB_out h).1 w
  simp only [Bool.false_eq_true, if_false] at k
  rw [(fit_yes (fdiv_in h ha)).1, (fit_yes (fdiv_in h ha)).2] at k
  exact k
theorem rfloor_up (a b : Int) (h : divB a b = true) (ha : I64 a) (hb : I64 b) (w : World) :
    Calls Try.prog 23 #[.int .i64 a, .int .i64 b, .bool true] w fun e w' => e = .returned (.tuple #[.int .i64 (cdiv a b), .bool true]) ∧ Below w.heap.size w w' := by
  have k := rfloor_any a b true ha hb (divB_out h).1 w
  simp only [if_true] at k
  rw [(fit_yes (cdiv_in h ha)).1, (fit_yes (cdiv_in h ha)).2] at k
  exact k
theorem rfloor_out (a b : Int) (up : Bool) (h : divB a b = false) (ha : I64 a) (hb : I64 b) (w : World) :
    Calls Try.prog 23 #[.int .i64 a, .int .i64 b, .bool up] w fun e w' => e = .returned (.tuple #[.int .i64 0, .bool false]) ∧ Below w.heap.size w w' := by
  by_cases h0 : b = 0
  · subst h0
    refine (rfloor_zero a up w).mono ?_
    rintro e w' ⟨rfl, rfl⟩
    exact ⟨rfl, Below.refl _ _⟩
  · obtain ⟨h1, h2⟩ : a = -9223372036854775808 ∧ b = -1 := by simpa [divB, h0] using h
    have k := rfloor_any a b up ha hb h0 w
    have e : (if up = true then cdiv a b else a.fdiv b) = 9223372036854775808 := by
      rw [h1, h2]; cases up <;> decide
    rw [e, show fit 9223372036854775808 = 0 by decide, show fitB 9223372036854775808 = false by decide] at k
    exact k

set_option maxHeartbeats 2000000 in
theorem walk (a b : Int) (ha : I64 a) (hb : I64 b) (w : World) :
    Calls Try.prog 5 #[.int .i64 a, .int .i64 b] w fun r w' => r = .returned (.bool true) ∧ Below w.heap.size w w' := by
  by_cases hd : divB a b = true
  ·
    go_enter Try.func5, Try.ntmps5
    go_wp2_with fail
    with_reducible refine (floor_yes a b hd ha _).mono ?_
    rintro e w1 ⟨rfl, rfl⟩
    go_wp2_with fail
    with_reducible refine (rfloor_down a b hd ha hb _).mono ?_
    rintro e w1 ⟨rfl, b1⟩
    go_wp2_with fail
    with_reducible refine (ceil_yes a b hd ha _).mono ?_
    rintro e w2 ⟨rfl, rfl⟩
    go_wp2_with fail
    with_reducible refine (rfloor_up a b hd ha hb _).mono ?_
    rintro e w2 ⟨rfl, b2⟩
    go_wp2_with fail
    with_reducible refine (gcd_any a b ha hb _).mono ?_
    rintro e w3 ⟨rfl, b3⟩
    go_wp2_with fail
    with_reducible refine (rgcd_any a b ha hb _).mono ?_
    rintro e w4 ⟨rfl, b4⟩
    go_wp2_with fail
    with_reducible refine (wakes_any _).mono ?_
    rintro e w5 ⟨rfl, b5⟩
    go_wp2
    go_ret
    exact ⟨rfl, on (on (on (on b1 b2) b3) b4) b5⟩
  · have hd : divB a b = false := by simpa using hd
    go_enter Try.func5, Try.ntmps5
    go_wp2_with fail
    with_reducible refine (floor_no a b hd _).mono ?_
    rintro e w1 ⟨rfl, rfl⟩
    go_wp2_with fail
    with_reducible refine (rfloor_out a b false hd ha hb _).mono ?_
    rintro e w1 ⟨rfl, b1⟩
    go_wp2_with fail
    with_reducible refine (ceil_no a b hd _).mono ?_
    rintro e w2 ⟨rfl, rfl⟩
    go_wp2_with fail
    with_reducible refine (rfloor_out a b true hd ha hb _).mono ?_
    rintro e w2 ⟨rfl, b2⟩
    go_wp2_with fail
    with_reducible refine (gcd_any a b ha hb _).mono ?_
    rintro e w3 ⟨rfl, b3⟩
    go_wp2_with fail
    with_reducible refine (rgcd_any a b ha hb _).mono ?_
    rintro e w4 ⟨rfl, b4⟩
    go_wp2_with fail
    with_reducible refine (wakes_any _).mono ?_
    rintro e w5 ⟨rfl, b5⟩
    go_wp2
    go_ret
    exact ⟨rfl, on (on (on (on b1 b2) b3) b4) b5⟩

/-! ### the row -/
set_option maxRecDepth 100000 in
theorem lifted (os : Os) (started : os.Started) (H : Type) (enc : TypeId × Value → H) :
    ReturnsInHanded {} Try.checked os 5 .any (Rows.numQuotientsSpec.pre6 enc Try.prog Try.f5 Rows.numQuotientsRow.domain false) (Rows.numQuotientsSpec.post enc Try.prog Try.f5 false true false false) := by
  refine returnsInHanded_of_change (C := Try.checked) own started (by kernel_rfl) Try.func5
    (ChangeSpec.witness6 (enc := enc) (C := Try.checked) false ⟨#[], #[.int .i64 0, .int .i64 0], []⟩ 8 (by kernel_rfl) (by kernel_rfl) (by kernel_rfl) (by kernel_rfl)) ?_
  intro W base args ds gs before hval0 hW hcnd _
  have hval : ∀ (j : Nat) t v, Try.f5.params[j]? = some t → args[j]? = some v → Value.okWide Try.prog W .any base t v := hval0
  have hW' := hW
  obtain ⟨p, q, hA0, hV, rfl, hfz, hnd⟩ := hW
  have hA : DataW.TrodAll enc Try.prog W 0 (fun _ => true) true Try.f5.params.toList args.toList ds p := hA0
  rw [Try.params5] at hA hval
  obtain ⟨v0, vs0, d0, ds0, p0, q0, hargs, rfl, rfl, h0, r0⟩ := trodAll_cons hA
  obtain ⟨v1, vs1, d1, ds1, p1, q1, rfl, rfl, rfl, h1, r1⟩ := trodAll_cons r0
  obtain ⟨rfl, rfl, rfl⟩ := trodAll_nil r1
  obtain rfl : args = #[v0, v1] := by cases args; simp_all
  obtain ⟨rfl, rfl⟩ := trodVars_none hV
  have k0 := h0
  have lt0 : ∀ x ∈ p0, x.block < W.heap.size := by obtain ⟨m, hm⟩ := k0; exact DataW.trod_lt m _ _ _ hm
  obtain ⟨a0, w0, rfl⟩ := open_num (hval 0 2 v0 rfl rfl) h0
  have k1 := h1
  have lt1 : ∀ x ∈ p1, x.block < W.heap.size := by obtain ⟨m, hm⟩ := k1; exact DataW.trod_lt m _ _ _ hm
  obtain ⟨a1, w1, rfl⟩ := open_num (hval 1 2 v1 rfl rfl) h1
  clear hA0 hval0
  refine (walk a0 a1 w0 w1 W).mono fun e W' ⟨he, bel⟩ => ?_
  subst he
  exact ⟨_, rfl, _, _, _, [], _, [], hW', trodAll_mk1 (shut_bool Try.underlying4 _), (trodAll_cons_mk (Below.trod laidOut (by kernel_rfl) (of_decide_eq_true (by kernel_rfl)) k0 bel lt0) (trodAll_cons_mk (Below.trod laidOut (by kernel_rfl) (of_decide_eq_true (by kernel_rfl)) k1 bel lt1) trodAll_mk0)), rfl, bel.frame _, fun h => by cases h⟩

theorem over : Rows.numQuotientsRow.holds Try.pinned (OpenSpec.ofChange Rows.numQuotientsSpec) :=
  OpenClaim.holds_of_wide 5 Try.f5 rfl rfl rfl rfl rfl rfl rfl ⟨rfl, rfl, rfl, rfl, rfl⟩ rfl rfl rfl rfl rfl (by kernel_rfl) Try.func5 (by kernel_rfl)
    (of_decide_eq_true (by kernel_rfl)) (by unfold Func.isWrapper; first | (rw [if_pos (by decide +kernel)]; kernel_rfl) | (rw [if_neg (by decide +kernel)]; exact ⟨rfl, rfl⟩))
    (fun os started H enc _ => lifted os started H enc)

end Go.Proofs.Ytbkfmkbjfifgjaa.numQuotients
namespace Go.Proofs.Ytbkfmkbjfifgjaa
theorem numQuotients_holds : Rows.NumQuotientsSaid := numQuotients.over
#print axioms numQuotients_holds
end Go.Proofs.Ytbkfmkbjfifgjaa
