/-
  NumSums: every sum, difference, product and opposite of two numbers of 64 bits is the document's, or there is none.
  Conditions: none beyond the given statement's own.
-/
import Derived.Test.YtbkfmkbjfifgjaaNumWalks3
import Derived.Test.YtbkfmkbjfifgjaaBigWalks8
import Derived.Test.YtbkfmkbjfifgjaaLawFrame
namespace Go.Proofs.Ytbkfmkbjfifgjaa.numSums
open Go.ChangeShapes Go.WideShapes Go.ChangeAt Go.RowKit
set_option linter.unusedVariables false

theorem radd_sub (a b : Int) (u v : Value) (w : World) (h1 : Rep w u a) (h2 : Rep w v (-b)) (l1 : Few a) (l2 : Few (-b)) :
    Calls Try.prog 13 #[u, v] w fun e w' => (∃ v, e = .returned v ∧ Rep w' v (a - b)) ∧ Below w.heap.size w w' := by
  rw [Int.sub_eq_add_neg]; exact radd_rep a (-b) u v w h1 h2 l1 l2

set_option maxHeartbeats 4000000 in
theorem walk (a b : Int) (ha : I64 a) (hb : I64 b) (w : World) :
    Calls Try.prog 3 #[.int .i64 a, .int .i64 b] w fun r w' => r = .returned (.bool true) ∧ Below w.heap.size w w' := by
  have fa := few_i64 ha
  have fb := few_i64 hb
  have fn : Few (-b) := by unfold Few; rw [Int.natAbs_neg]; exact fb
  go_enter Try.func3, Try.ntmps3
  go_wp2_with fail
  with_reducible refine (of_any a ha _).mono ?_
  rintro e w1 ⟨⟨vA, rfl, QA⟩, b1⟩
  have B1 : Below w.heap.size w w1 := b1
  clear b1
  obtain ⟨pA, xA, lA, kA, rfl, RA⟩ := QA.form
  go_wp2_with fail
  with_reducible refine (of_any b hb _).mono ?_
  rintro e w2 ⟨⟨vB, rfl, QB⟩, b2⟩
  have B2 : Below w.heap.size w w2 := on B1 b2
  have RA2 := RA.below b2
  clear RA b2 B1
  have RA := RA2
  clear RA2
  obtain ⟨pB, xB, lB, kB, rfl, RB⟩ := QB.form
  go_wp2_with fail
  with_reducible refine (add_any a b ha hb _).mono ?_
  rintro e w3 ⟨rfl, b3⟩
  have B3 : Below w.heap.size w w3 := on (on B2 (two_below w2 (.cells #[.bool pA, .slice xA lA kA] 24) (.cells #[.bool pB, .slice xB lB kB] 24))) b3
  have HA3 := ((held_new w2 pA xA lA kA).alloc (.cells #[.bool pB, .slice xB lB kB] 24)).next b3
  have HB3 := (held_new2 w2 (.cells #[.bool pA, .slice xA lA kA] 24) pB xB lB kB).next b3
  have RA3 := (RA.below (two_below w2 (.cells #[.bool pA, .slice xA lA kA] 24) (.cells #[.bool pB, .slice xB lB kB] 24))).below b3
  have RB3 := (RB.below (two_below w2 (.cells #[.bool pA, .slice xA lA kA] 24) (.cells #[.bool pB, .slice xB lB kB] 24))).below b3
  clear RA RB b3 B2
  obtain ⟨cA, dA, sA⟩ := HA3
  obtain ⟨cB, dB, sB⟩ := HB3
  have RA := RA3
  clear RA3
  have RB := RB3
  clear RB3
  go_wp2_with fail
  with_reducible refine (radd_rep a b _ _ _ RA RB fa fb).mono ?_
  rintro e w4 ⟨⟨vS, rfl, QS⟩, b4⟩
  have B4 : Below w.heap.size w w4 := on B3 b4
  have HA4 := (Held.mk cA dA sA).next b4
  have HB4 := (Held.mk cB dB sB).next b4
  have RA4 := RA.below b4
  have RB4 := RB.below b4
  clear cA dA sA cB dB sB RA RB b4 B3
  obtain ⟨cA, dA, sA⟩ := HA4
  obtain ⟨cB, dB, sB⟩ := HB4
  have RA := RA4
  clear RA4
  have RB := RB4
  clear RB4
  obtain ⟨pS, xS, lS, kS, rfl, RS⟩ := QS.form
  go_wp2_with fail
  with_reducible refine (short_rep (a + b) _ _ RS).mono ?_
  rintro e w5 ⟨rfl, b5⟩
  have B5 : Below w.heap.size w w5 := on B4 b5
  have HA5 := (Held.mk cA dA sA).next b5
  have HB5 := (Held.mk cB dB sB).next b5
  have RA5 := RA.below b5
  have RB5 := RB.below b5
  have RS5 := RS.below b5
  clear cA dA sA cB dB sB RA RB RS b5 B4
  obtain ⟨cA, dA, sA⟩ := HA5
  obtain ⟨cB, dB, sB⟩ := HB5
  have RA := RA5
  clear RA5
  have RB := RB5
  clear RB5
  have RS := RS5
  clear RS5
  clear RS
  go_wp2_with fail
  with_reducible refine (sub_any a b ha hb _).mono ?_
  rintro e w6 ⟨rfl, b6⟩
  have B6 : Below w.heap.size w w6 := on B5 b6
  have HA6 := (Held.mk cA dA sA).next b6
  have HB6 := (Held.mk cB dB sB).next b6
  have RA6 := RA.below b6
  have RB6 := RB.below b6
  clear cA dA sA cB dB sB RA RB b6 B5
  obtain ⟨cA, dA, sA⟩ := HA6
  obtain ⟨cB, dB, sB⟩ := HB6
  have RA := RA6
  clear RA6
  have RB := RB6
  clear RB6
  have HA := Lib.hid (Held.mk cA dA sA)
  have HB := Lib.hid (Held.mk cB dB sB)
  go_wp2
  go_region_held3 (fun w' => w'.cell? ⟨w2.heap.size, 0, none⟩ = some (.bool pA) ∧ w'.cell? ⟨w2.heap.size, 1, none⟩ = some (.slice xA lA kA) ∧ w'.cell? ⟨w2.heap.size + 1, 0, none⟩ = some (.bool pB) ∧ w'.cell? ⟨w2.heap.size + 1, 1, none⟩ = some (.slice xB lB kB))
    (first | exact two_held HA.out HB.out | exact two_held HA.out.drew HB.out.drew | exact two_held (HA.out.drew.next hb7) (HB.out.drew.next hb7) | exact two_held ((HA.out.drew.next hb7).next hb8) ((HB.out.drew.next hb7).next hb8) | exact two_held (((HA.out.drew.next hb7).next hb8).next hb9) (((HB.out.drew.next hb7).next hb8).next hb9))
    (first
      | (go_at_call 15; (with_reducible refine (opp_rep b _ _ RB.drew).mono ?_); rintro r w7 ⟨⟨vN, rfl, QN⟩, hb7⟩; obtain ⟨pN, xN, lN, kN, rfl, RN⟩ := QN.form)
      | (go_at_call 13; (with_reducible refine (radd_sub a b _ _ _ (RA.drew.below hb7) RN fa fn).mono ?_); rintro r w8 ⟨⟨vS, rfl, QS⟩, hb8⟩; obtain ⟨pS, xS, lS, kS, rfl, RS⟩ := QS.form)
      | (go_at_call 12; (with_reducible refine (short_rep (a - b) _ _ RS).mono ?_); rintro r w9 ⟨rfl, hb9⟩))
  have B9 := on (on (on B6.drew hb7) hb8) hb9
  have HA9 := ((HA.out.drew.next hb7).next hb8).next hb9
  have HB9 := ((HB.out.drew.next hb7).next hb8).next hb9
  have RA9 := ((RA.drew.below hb7).below hb8).below hb9
  have RB9 := ((RB.drew.below hb7).below hb8).below hb9
  clear cA dA sA cB dB sB RA RB B6 hb7 hb8 hb9 HA HB RN RS
  obtain ⟨cA, dA, sA⟩ := HA9
  obtain ⟨cB, dB, sB⟩ := HB9
  have RA := RA9
  have RB := RB9
  clear RA9 RB9
  go_wp2_with fail
  with_reducible refine (mul_any a b ha hb _).mono ?_
  rintro e w10 ⟨rfl, b10⟩
  have B10 : Below w.heap.size w w10 := on B9 b10
  have HA10 := (Held.mk cA dA sA).next b10
  have HB10 := (Held.mk cB dB sB).next b10
  have RA10 := RA.below b10
  have RB10 := RB.below b10
  clear cA dA sA cB dB sB RA RB b10 B9
  obtain ⟨cA, dA, sA⟩ := HA10
  obtain ⟨cB, dB, sB⟩ := HB10
  have RA := RA10
  clear RA10
  have RB := RB10
  clear RB10
  go_wp2_with fail
  with_reducible refine (rmul_rep a b _ _ _ RA RB fa fb).mono ?_
  rintro e w11 ⟨⟨vM, rfl, QM⟩, b11⟩
  have B11 : Below w.heap.size w w11 := on B10 b11
  have HA11 := (Held.mk cA dA sA).next b11
  have HB11 := (Held.mk cB dB sB).next b11
  have RA11 := RA.below b11
  have RB11 := RB.below b11
  clear cA dA sA cB dB sB RA RB b11 B10
  obtain ⟨cA, dA, sA⟩ := HA11
  obtain ⟨cB, dB, sB⟩ := HB11
  have RA := RA11
  clear RA11
  have RB := RB11
  clear RB11
  obtain ⟨pM, xM, lM, kM, rfl, RM⟩ := QM.form
  go_wp2_with fail
  with_reducible refine (short_rep (a * b) _ _ RM).mono ?_
  rintro e w12 ⟨rfl, b12⟩
  have B12 : Below w.heap.size w w12 := on B11 b12
  have HA12 := (Held.mk cA dA sA).next b12
  have HB12 := (Held.mk cB dB sB).next b12
  have RA12 := RA.below b12
  have RB12 := RB.below b12
  have RM12 := RM.below b12
  clear cA dA sA cB dB sB RA RB RM b12 B11
  obtain ⟨cA, dA, sA⟩ := HA12
  obtain ⟨cB, dB, sB⟩ := HB12
  have RA := RA12
  clear RA12
  have RB := RB12
  clear RB12
  have RM := RM12
  clear RM12
  clear RM
  go_wp2_with fail
  with_reducible refine (neg_any a ha _).mono ?_
  rintro e w13 ⟨rfl, b13⟩
  have B13 : Below w.heap.size w w13 := on B12 b13
  have HA13 := (Held.mk cA dA sA).next b13
  have HB13 := (Held.mk cB dB sB).next b13
  have RA13 := RA.below b13
  have RB13 := RB.below b13
  clear cA dA sA cB dB sB RA RB b13 B12
  obtain ⟨cA, dA, sA⟩ := HA13
  obtain ⟨cB, dB, sB⟩ := HB13
  have RA := RA13
  clear RA13
  have RB := RB13
  clear RB13
  go_wp2_with fail
  with_reducible refine (opp_rep a _ _ RA).mono ?_
  rintro e w14 ⟨⟨vN, rfl, QN⟩, b14⟩
  have B14 : Below w.heap.size w w14 := on B13 b14
  have HA14 := (Held.mk cA dA sA).next b14
  have HB14 := (Held.mk cB dB sB).next b14
  have RA14 := RA.below b14
  have RB14 := RB.below b14
  clear cA dA sA cB dB sB RA RB b14 B13
  obtain ⟨cA, dA, sA⟩ := HA14
  obtain ⟨cB, dB, sB⟩ := HB14
  have RA := RA14
  clear RA14
  have RB := RB14
  clear RB14
  obtain ⟨pN, xN, lN, kN, rfl, RN⟩ := QN.form
  go_wp2_with fail
  with_reducible refine (short_rep (-a) _ _ RN).mono ?_
  rintro e w15 ⟨rfl, b15⟩
  have B15 : Below w.heap.size w w15 := on B14 b15
  have HA15 := (Held.mk cA dA sA).next b15
  have HB15 := (Held.mk cB dB sB).next b15
  have RA15 := RA.below b15
  have RB15 := RB.below b15
  have RN15 := RN.below b15
  clear cA dA sA cB dB sB RA RB RN b15 B14
  obtain ⟨cA, dA, sA⟩ := HA15
  obtain ⟨cB, dB, sB⟩ := HB15
  have RA := RA15
  clear RA15
  have RB := RB15
  clear RB15
  have RN := RN15
  clear RN15
  clear RN
  go_wp2_with fail
  with_reducible refine (wakes_any _).mono ?_
  rintro e w16 ⟨rfl, b16⟩
  have B16 : Below w.heap.size w w16 := on B15 b16
  have HA16 := (Held.mk cA dA sA).next b16
  have HB16 := (Held.mk cB dB sB).next b16
  have RA16 := RA.below b16
  have RB16 := RB.below b16
  clear cA dA sA cB dB sB RA RB b16 B15
  obtain ⟨cA, dA, sA⟩ := HA16
  obtain ⟨cB, dB, sB⟩ := HB16
  have RA := RA16
  clear RA16
  have RB := RB16
  clear RB16
  go_wp2
  go_ret
  exact ⟨rfl, B16⟩

/-! ### the row -/
set_option maxRecDepth 100000 in
theorem lifted (os : Os) (started : os.Started) (H : Type) (enc : TypeId × Value → H) :
    ReturnsInHanded {} Try.checked os 3 .any (Rows.numSumsSpec.pre6 enc Try.prog Try.f3 Rows.numSumsRow.domain false) (Rows.numSumsSpec.post enc Try.prog Try.f3 false true false false) := by
  refine returnsInHanded_of_change (C := Try.checked) own started (by kernel_rfl) Try.func3
    (ChangeSpec.witness6 (enc := enc) (C := Try.checked) false ⟨#[], #[.int .i64 0, .int .i64 0], []⟩ 8 (by kernel_rfl) (by kernel_rfl) (by kernel_rfl) (by kernel_rfl)) ?_
  intro W base args ds gs before hval0 hW hcnd _
  have hval : ∀ (j : Nat) t v, Try.f3.params[j]? = some t → args[j]? = some v → Value.okWide Try.prog W .any base t v := hval0
  have hW' := hW
  obtain ⟨p, q, hA0, hV, rfl, hfz, hnd⟩ := hW
  have hA : DataW.TrodAll enc Try.prog W 0 (fun _ => true) true Try.f3.params.toList args.toList ds p := hA0
  rw [Try.params3] at hA hval
  obtain ⟨v0, vs0, d0, ds0, p0, q0, hargs, rfl, rfl, h0, r0⟩ := trodAll_cons hA
  obtain ⟨v1, vs1, d1, ds1, p1, q1, rfl, rfl, rfl, h1, r1⟩ := trodAll_cons r0
  obtain ⟨rfl, rfl, rfl⟩ := trodAll_nil r1
  obtain rfl : args = #[v0, v1] := by cases args; simp_all
  obtain ⟨rfl, rfl⟩ := trodVars_none hV
  have k0 := h0
  have lt0 : ∀ x ∈ p0, x.block < W.heap.size := by obtain ⟨m, hm⟩ := k0; exact DataW.trod_lt m _ _ _ hm
  obtain ⟨a0, w0, rfl⟩ := open_num (hval 0 2 v0 rfl rfl) h0
  have k1 := h1
  have lt1 : ∀ x ∈ p1, x.block < W.heap.size := by obtain ⟨m, hm⟩ := k1; exact DataW.trod_lt m _ _ _ hm
  obtain ⟨a1, w1, rfl⟩ := open_num (hval 1 2 v1 rfl rfl) h1
  clear hA0 hval0
  refine (walk a0 a1 w0 w1 W).mono fun e W' ⟨he, bel⟩ => ?_
  subst he
  exact ⟨_, rfl, _, _, _, [], _, [], hW', trodAll_mk1 (shut_bool Try.underlying4 _), (trodAll_cons_mk (Below.trod laidOut (by kernel_rfl) (of_decide_eq_true (by kernel_rfl)) k0 bel lt0) (trodAll_cons_mk (Below.trod laidOut (by kernel_rfl) (of_decide_eq_true (by kernel_rfl)) k1 bel lt1) trodAll_mk0)), rfl, bel.frame _, fun h => by cases h⟩

theorem over : Rows.numSumsRow.holds Try.pinned (OpenSpec.ofChange Rows.numSumsSpec) :=
  OpenClaim.holds_of_wide 3 Try.f3 rfl rfl rfl rfl rfl rfl rfl ⟨rfl, rfl, rfl, rfl, rfl⟩ rfl rfl rfl rfl rfl (by kernel_rfl) Try.func3 (by kernel_rfl)
    (of_decide_eq_true (by kernel_rfl)) (by unfold Func.isWrapper; first | (rw [if_pos (by decide +kernel)]; kernel_rfl) | (rw [if_neg (by decide +kernel)]; exact ⟨rfl, rfl⟩))
    (fun os started H enc _ => lifted os started H enc)

end Go.Proofs.Ytbkfmkbjfifgjaa.numSums
namespace Go.Proofs.Ytbkfmkbjfifgjaa
theorem numSums_holds : Rows.NumSumsSaid := numSums.over
#print axioms numSums_holds
end Go.Proofs.Ytbkfmkbjfifgjaa
