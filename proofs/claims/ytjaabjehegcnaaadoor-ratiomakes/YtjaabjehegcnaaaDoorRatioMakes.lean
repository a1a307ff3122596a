/-
  RatioMakes: the good ratio of every two numbers, and which ratios are good, is the document's, or there is none. For every two numbers of 64 bits.
  Conditions: none beyond the given statement's own.
-/
import Derived.Test.YtjaabjehegcnaaaDoorRatioWalks2
import Derived.Test.YtjaabjehegcnaaaDoorRefWalks
import Derived.Test.YtjaabjehegcnaaaDoorLaidFrame
namespace Go.Proofs.YtjaabjehegcnaaaDoor.ratioMakes
set_option maxRecDepth 100000
open Go.RowKit

theorem mkV_raw (n d : Int) : mkV n d = .tuple #[.agg #[.int .i64 (mkN n d), .int .i64 (mkD n d)], .bool (mkB n d)] := rfl
theorem rmkV_raw (n d : Int) : rmkV n d = .tuple #[.int .i64 (mkN n d), .int .i64 (mkD n d), .bool (mkB n d)] := rfl

set_option maxHeartbeats 2000000 in
theorem walk (a b : Int) (ha : I64 a) (hb : I64 b) (w : World) (hL : LibOk w) :
    Calls Tryd.prog 3 #[.int .i64 a, .int .i64 b] w fun e w' => e = .returned (.bool true) ∧ Below w.heap.size w w' := by
  have M := make_any a b ha hb
  have R := rmake_any a b ha hb
  have G := good_any a b ha hb
  have H := rgood_any a b ha hb
  rw [mkV_raw] at M
  rw [rmkV_raw] at R
  obtain ⟨p, hp⟩ : ∃ p, mkN a b = p := ⟨_, rfl⟩
  obtain ⟨q, hq⟩ : ∃ q, mkD a b = q := ⟨_, rfl⟩
  obtain ⟨c, hc⟩ : ∃ c, mkB a b = c := ⟨_, rfl⟩
  obtain ⟨g, hg⟩ : ∃ c, goodB a b = c := ⟨_, rfl⟩
  rw [hp, hq, hc] at M R
  rw [hg] at G H
  clear hp hq hc hg
  go_enter Tryd.func3, Tryd.ntmps3
  go_wp2_with fail
  with_reducible refine (M _).mono ?_
  rintro e w1 ⟨rfl, b1⟩
  have B1 : Below w.heap.size w w1 := b1
  have R1 := rbox_new w1 p q 23
  have b1' := new_below w1 (.cells #[.int .i64 p, .int .i64 q] 23)
  have L1 := (hL.below B1).below b1'
  have B1' := on B1 b1'
  clear b1 b1' B1
  go_wp2_with fail
  with_reducible refine (R _).mono ?_
  rintro e w2 ⟨rfl, b2⟩
  have R2 := R1.next b2
  have L2 := L1.below b2
  have B2 := on B1' b2
  clear b2 L1 R1 B1'
  obtain ⟨c0, c1, f0, f1, hz⟩ := R2
  go_wp2_with fail
  with_reducible refine (wakes_any _ L2).mono ?_
  rintro e w3 ⟨rfl, b3⟩
  have R3 := (RBox.mk c0 c1 f0 f1 hz).next b3
  have B3 := on B2 b3
  clear b3 L2 B2 c0 c1 f0 f1 hz
  obtain ⟨c0, c1, f0, f1, hz⟩ := R3
  go_wp2_with fail
  with_reducible refine (G _).mono ?_
  rintro e w4 ⟨rfl, b4⟩
  have B4 := on B3 b4
  clear b4 B3 c0 c1 f0 f1 hz
  go_wp2_with fail
  with_reducible refine (H _).mono ?_
  rintro e w5 ⟨rfl, b5⟩
  have B5 := on B4 b5
  clear b5 B4
  go_wp2_with fail
  with_reducible refine (of_ratio a _).mono ?_
  rintro e w6 ⟨rfl, b6⟩
  go_wp2
  go_ret
  exact ⟨rfl, on B5 b6⟩

/-! ### the row -/
open Go.ChangeShapes Go.WideShapes Go.ChangeAt
theorem lifted (os : Os) (started : os.Started) (H : Type) (enc : TypeId × Value → H) :
    ReturnsInHanded {} Tryd.checked os 3 .any (fun w args => (Rows.ratioMakesSpec.pre enc Tryd.prog Tryd.f3 [] false w args ∧ laidMetH Tryd.prog laidL w) ∧ sizedMet enc Tryd.prog Tryd.f3 (OpenSpec.ofChange Rows.ratioMakesSpec) false w args)
      (Rows.ratioMakesSpec.post enc Tryd.prog Tryd.f3 false true false false) := by
  refine returnsInHanded_of_change_and (C := Tryd.checked) (X := fun w _ => laidMetH Tryd.prog laidL w) (fun _ _ _ hh h => h.of_heap hh) own started (by kernel_rfl) Tryd.func3
    (ChangeSpec.witness_shaped (enc := enc) (C := Tryd.checked) (os := os) (X := fun w _ => laidMetH Tryd.prog laidL w) false (World.doorLaid Tryd.prog 400 os) #[.int .i64 0, .int .i64 0] 8 rfl (World.shaped_of_RefB (by kernel_rfl) (by kernel_rfl)) (by kernel_rfl) (by kernel_rfl) (by kernel_rfl) (door_met os _)) ?_
  intro W base args ds gs before hval0 hW _ hsz0 hL _
  have hval : ∀ (j : Nat) t v, Tryd.f3.params[j]? = some t → args[j]? = some v → Value.okWide Tryd.prog W .any base t v := hval0
  have hW' := hW
  obtain ⟨p, q, hA0, hV, rfl, hfz, hnd⟩ := hW
  have hA : DataW.TrodAll enc Tryd.prog W 0 (fun _ => true) true Tryd.f3.params.toList args.toList ds p := hA0
  rw [Tryd.params3] at hA hval
  obtain ⟨v0, vs0, d0, ds0, p0, q0, hargs, rfl, rfl, h0, r0⟩ := trodAll_cons hA
  obtain ⟨v1, vs1, d1, ds1, p1, q1, rfl, rfl, rfl, h1, r1⟩ := trodAll_cons r0
  obtain ⟨rfl, rfl, rfl⟩ := trodAll_nil r1
  obtain rfl : args = #[v0, v1] := by cases args; simp_all
  obtain ⟨rfl, rfl⟩ := trodVars_none hV
  have k0 := h0
  have lt0 : ∀ x ∈ p0, x.block < W.heap.size := by obtain ⟨m, hm⟩ := k0; exact DataW.trod_lt m _ _ _ hm
  obtain ⟨a0, w0, rfl⟩ := open_num (hval 0 2 v0 rfl rfl) h0
  have k1 := h1
  have lt1 : ∀ x ∈ p1, x.block < W.heap.size := by obtain ⟨m, hm⟩ := k1; exact DataW.trod_lt m _ _ _ hm
  obtain ⟨a1, w1, rfl⟩ := open_num (hval 1 2 v1 rfl rfl) h1
  clear hA0 hval0
  refine (walk a0 a1 w0 w1 W (libOk_of_laid hL)).mono fun e W' ⟨he, bel⟩ => ?_
  subst he
  exact ⟨_, rfl, _, _, _, [], _, [], hW', trodAll_mk1 (shut_bool Tryd.underlying4 _), (trodAll_cons_mk (Below.trod laidOut (by kernel_rfl) (of_decide_eq_true (by kernel_rfl)) k0 bel lt0) (trodAll_cons_mk (Below.trod laidOut (by kernel_rfl) (of_decide_eq_true (by kernel_rfl)) k1 bel lt1) trodAll_mk0)), rfl, bel.frame _, fun h => by cases h⟩

theorem over : Rows.ratioMakesRow.holds Tryd.pinned (OpenSpec.ofChange Rows.ratioMakesSpec) :=
  OpenClaim.holds_of_wide 3 Tryd.f3 rfl rfl rfl rfl rfl rfl rfl ⟨rfl, rfl, rfl, rfl, rfl⟩ rfl rfl rfl rfl rfl (by kernel_rfl) Tryd.func3 (by kernel_rfl)
    (of_decide_eq_true (by kernel_rfl)) (by unfold Func.isWrapper; first | (rw [if_pos (by decide +kernel)]; kernel_rfl) | (rw [if_neg (by decide +kernel)]; exact ⟨rfl, rfl⟩))
    (fun os started H enc _ => lifted os started H enc)

theorem card : Rows.RatioMakesCardSaid :=
  Claim7.holds_tied_plain_at .later [] [.data, .data, .data, .sentinel, .sentinel] true _ true
    over (fun _ h => by cases h) (by kernel_rfl) (fun _ h => by cases h) ratioMakes_row_tie rfl ⟨rfl, rfl⟩ (by kernel_rfl) rfl
    (fun f fn hf hfn => by
      obtain rfl : f = 3 := Option.some.inj ((show Tryd.prog.funcNamed Rows.ratioMakesRow.func = some 3 by kernel_rfl).symm.trans hf) |>.symm
      obtain rfl : fn = Tryd.f3 := (Option.some.inj (Tryd.func3.symm.trans hfn)).symm
      exact ⟨by kernel_rfl, fun j t ht => by
        rw [Tryd.params3] at ht
        have hm : t ∈ [2, 2] := by simpa using Array.mem_of_getElem? ht
        have hall : ([2, 2].all fun u => !Tryd.prog.wantsStandIn u) = true := by kernel_rfl
        exact (show Tryd.prog.wantsStandIn t = false by simpa using List.all_eq_true.1 hall t hm)⟩)
    (by kernel_rfl)

end Go.Proofs.YtjaabjehegcnaaaDoor.ratioMakes
namespace Go.Proofs.YtjaabjehegcnaaaDoor
theorem ratioMakes_holds : Rows.RatioMakesCardSaid := ratioMakes.card
#print axioms ratioMakes_holds
end Go.Proofs.YtjaabjehegcnaaaDoor
