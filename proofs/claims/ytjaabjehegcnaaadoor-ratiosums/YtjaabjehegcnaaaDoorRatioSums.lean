/-
  RatioSums: the sum and the product of every two ratios is the document's, or there is none. For every four numbers of 64 bits.
  Conditions: none beyond the given statement's own.
-/
import Derived.Test.YtjaabjehegcnaaaDoorLoopKit
import Derived.Test.YtjaabjehegcnaaaDoorRefWalks2
import Derived.Test.YtjaabjehegcnaaaDoorRatioWalks3
import Derived.Test.YtjaabjehegcnaaaDoorLaidFrame
namespace Go.Proofs.YtjaabjehegcnaaaDoor.ratioSums
set_option maxRecDepth 100000
open Go.RowKit

set_option maxHeartbeats 8000000 in
theorem walk (a b c d : Int) (ha : I64 a) (hb : I64 b) (hc : I64 c) (hd : I64 d) (w : World) (hL : LibOk w) :
    Calls Tryd.prog 5 #[.agg #[.int .i64 a, .int .i64 b], .agg #[.int .i64 c, .int .i64 d]] w fun e w' => e = .returned (.bool true) ∧ Below w.heap.size w w' := by
  have S1 := some_any a b ha hb
  have S2 := some_any c d hc hd
  have n1 := somes_len a b
  have n2 := somes_len c d
  obtain ⟨l1, h1⟩ : ∃ l, somes a b = l := ⟨_, rfl⟩
  obtain ⟨l2, h2⟩ : ∃ l, somes c d = l := ⟨_, rfl⟩
  rw [h1] at S1 n1
  rw [h2] at S2 n2
  clear h1 h2
  obtain ⟨m1, hm1⟩ : ∃ m, l1.length = m := ⟨_, rfl⟩
  obtain ⟨m2, hm2⟩ : ∃ m, l2.length = m := ⟨_, rfl⟩
  unfold IsSome at S1 S2
  rw [hm1] at S1 n1
  rw [hm2] at S2 n2
  have HM1 := Lib.hid hm1
  have HM2 := Lib.hid hm2
  clear hm1 hm2
  go_enter Tryd.func5, Tryd.ntmps5
  go_wp2_with fail
  with_reducible refine (S1 _).mono ?_
  rintro e w1 ⟨⟨g1, k1, rfl, q1, q2, R1⟩, b1⟩
  have O1 : Out w g1 l1 c d w1 := ⟨R1, (rbox_new2 w (.cells #[.int .i64 a, .int .i64 b] 31) c d 31).next b1, (hL.below (two_new w _ _)).below b1, on (two_new w _ _) b1⟩
  have H1 := Lib.hid O1
  clear O1 b1 R1 hL
  go_wp2_with fail
  go_loopw [22] (fun i wr => ∃ k : Nat, k ≤ m1 ∧ i = .int .i64 k ∧ Out w g1 l1 c d wr) (fun i _ => m1 - (intOf i).toNat)
  case atStart => exact ⟨0, by omega, rfl, H1.out⟩
  case round =>
    obtain ⟨k, hk, rfl, hO⟩ := hrel
    obtain ⟨wO, hwO⟩ : ∃ x, x = wr := ⟨wr, rfl⟩
    subst hwO
    by_cases hlt : k < m1
    · obtain ⟨p, q, hp, hq, hi⟩ := hO.L.get (i := k) (by rw [HM1.out]; exact hlt)
      have HO := Lib.hid hO
      obtain ⟨y0, y1, y2, y3, y4⟩ := hO.Y
      clear hO
      obtain ⟨ip, iq⟩ := hi
      have bA := new_below wO (.cells #[.int .i64 p, .int .i64 q] 23)
      have OA := Lib.hid (HO.out.next bA)
      have RA := Lib.hid (rbox_new wO p q 23)
      clear bA HO
      go_wp2_with fail
      with_reducible refine (S2 _).mono ?_
      rintro e w2 ⟨⟨g2, k2, rfl, r1, r2, R2⟩, b2⟩
      have HI := Lib.hid (Inn.mk (OA.out.next b2) (RA.out.next b2) R2)
      clear b2 R2 OA RA y0 y1 y2 y3 y4 hp hq
      have PA := Lib.hid (fun r s ir is => padd_any p q r s ip iq ir is)
      have PM := Lib.hid (fun r s ir is => pmul_any p q r s ip iq ir is)
      have RA := Lib.hid (fun r s ir is => rradd_any p q r s ip iq ir is)
      have RM := Lib.hid (fun r s ir is => rrmul_any p q r s ip iq ir is)
      go_wp2_with fail
      go_loopw [29] (fun i wr' => ∃ k' : Nat, k' ≤ m2 ∧ i = .int .i64 k' ∧ Inn w g1 l1 c d wO.heap.size p q g2 l2 wr') (fun i _ => m2 - (intOf i).toNat)
      case atStart => exact ⟨0, by omega, rfl, HI.out⟩
      case round =>
        obtain ⟨k', hk', rfl, hN⟩ := hrel
        by_cases hlt' : k' < m2
        · obtain ⟨r, s, hr, hs, ir, is⟩ := hN.M.get (i := k') (by rw [HM2.out]; exact hlt')
          have HN := Lib.hid hN
          obtain ⟨a0, a1, a2, a3, a4⟩ := hN.A
          clear hN
          have NA := Lib.hid (HN.out.next (new_below wr (.cells #[.int .i64 r, .int .i64 s] 23)))
          have NB := Lib.hid (rbox_new wr r s 23)
          clear HN
          have c1 := PA.out r s ir is
          have c2 := RA.out r s ir is
          have c3 := PM.out r s ir is
          have c4 := RM.out r s ir is
          obtain ⟨x1, e1⟩ : ∃ x, smN p q r s = x := ⟨_, rfl⟩
          obtain ⟨x2, e2⟩ : ∃ x, smD p q r s = x := ⟨_, rfl⟩
          obtain ⟨x3, e3⟩ : ∃ x, smB p q r s = x := ⟨_, rfl⟩
          obtain ⟨x4, e4⟩ : ∃ x, pdN p q r s = x := ⟨_, rfl⟩
          obtain ⟨x5, e5⟩ : ∃ x, pdD p q r s = x := ⟨_, rfl⟩
          obtain ⟨x6, e6⟩ : ∃ x, pdOk p q r s = x := ⟨_, rfl⟩
          rw [e1, e2, e3] at c1 c2
          rw [e4, e5, e6] at c3 c4
          clear e1 e2 e3 e4 e5 e6
          go_wp2_with fail
          with_reducible refine (c1 _).mono ?_
          rintro e w3 ⟨rfl, b3⟩
          have N3 := NA.out.next b3
          have M3 := NB.out.next b3
          have NA3 := Lib.hid (N3.next (new_below w3 (.cells #[.int .i64 x1, .int .i64 x2] 23)))
          have NB3 := Lib.hid (M3.next (new_below w3 (.cells #[.int .i64 x1, .int .i64 x2] 23)))
          have NS3 := Lib.hid (rbox_new w3 x1 x2 23)
          clear NA NB b3 a0 a1 a2 a3 a4 hr hs
          obtain ⟨a0, a1, a2, a3, a4⟩ := N3.A
          obtain ⟨d0, d1, d2, d3, d4⟩ := M3
          clear N3
          go_wp2_with fail
          with_reducible refine (c2 _).mono ?_
          rintro e w4 ⟨rfl, b4⟩
          have N4 := NA3.out.next b4
          have M4 := NB3.out.next b4
          have NS4 := Lib.hid (NS3.out.next b4)
          have NA4 := Lib.hid N4
          have NB4 := Lib.hid M4
          clear NA3 NB3 NS3 b4 a0 a1 a2 a3 a4 d0 d1 d2 d3 d4
          obtain ⟨a0, a1, a2, a3, a4⟩ := N4.A
          obtain ⟨d0, d1, d2, d3, d4⟩ := M4
          clear N4
          go_wp2_with fail
          with_reducible refine (c3 _).mono ?_
          rintro e w5 ⟨rfl, b5⟩
          have N5 := NA4.out.next b5
          have M5 := NB4.out.next b5
          have NS5 := Lib.hid ((NS4.out.next b5).next (new_below w5 (.cells #[.int .i64 x4, .int .i64 x5] 23)))
          have NA5 := Lib.hid (N5.next (new_below w5 (.cells #[.int .i64 x4, .int .i64 x5] 23)))
          have NP5 := Lib.hid (rbox_new w5 x4 x5 23)
          clear NA4 NB4 NS4 b5 a0 a1 a2 a3 a4 d0 d1 d2 d3 d4
          obtain ⟨a0, a1, a2, a3, a4⟩ := N5.A
          obtain ⟨d0, d1, d2, d3, d4⟩ := M5
          clear N5
          go_wp2_with fail
          with_reducible refine (c4 _).mono ?_
          rintro e w6 ⟨rfl, b6⟩
          have HI6 := Lib.hid (NA5.out.next b6)
          obtain ⟨s0, s1, s2, s3, s4⟩ := NS5.out.next b6
          obtain ⟨p0, p1, p2, p3, p4⟩ := NP5.out.next b6
          clear NA5 NS5 NP5 b6 a0 a1 a2 a3 a4 d0 d1 d2 d3 d4 c1 c2 c3 c4
          go_wp2
          go_roundw
          case rel => exact ⟨k' + 1, by omega, by go_num, HI6.out⟩
          case measure => simp [intOf]; omega
        · obtain rfl : k' = m2 := by omega
          have HO6 := Lib.hid hN.O
          clear hN HI PA PM RA RM S1 S2
          go_wp2
          go_roundw
          case rel => exact ⟨k + 1, by omega, by go_num, HO6.out⟩
          case measure => simp [intOf]; omega
    · obtain rfl : k = m1 := by omega
      have HO := Lib.hid hO
      have ok := hO.ok
      clear hO H1
      go_wp2_with fail
      with_reducible refine (wakes_any _ ok).mono ?_
      rintro e w3 ⟨rfl, b3⟩
      go_wp2
      go_ret
      exact ⟨rfl, on HO.out.B b3⟩

/-! ### the row -/
open Go.ChangeShapes Go.WideShapes Go.ChangeAt
theorem lifted (os : Os) (started : os.Started) (H : Type) (enc : TypeId × Value → H) :
    ReturnsInHanded {} Tryd.checked os 5 .any (fun w args => (Rows.ratioSumsSpec.pre enc Tryd.prog Tryd.f5 [] false w args ∧ laidMetH Tryd.prog laidL w) ∧ sizedMet enc Tryd.prog Tryd.f5 (OpenSpec.ofChange Rows.ratioSumsSpec) false w args)
      (Rows.ratioSumsSpec.post enc Tryd.prog Tryd.f5 false true false false) := by
  refine returnsInHanded_of_change_and (C := Tryd.checked) (X := fun w _ => laidMetH Tryd.prog laidL w) (fun _ _ _ hh h => h.of_heap hh) own started (by kernel_rfl) Tryd.func5
    (ChangeSpec.witness_shaped (enc := enc) (C := Tryd.checked) (os := os) (X := fun w _ => laidMetH Tryd.prog laidL w) false (World.doorLaid Tryd.prog 400 os) #[.agg #[.int .i64 0, .int .i64 0], .agg #[.int .i64 0, .int .i64 0]] 8 rfl (World.shaped_of_RefB (by kernel_rfl) (by kernel_rfl)) (by kernel_rfl) (by kernel_rfl) (by kernel_rfl) (door_met os _)) ?_
  intro W base args ds gs before hval0 hW _ hsz0 hL _
  have hval : ∀ (j : Nat) t v, Tryd.f5.params[j]? = some t → args[j]? = some v → Value.okWide Tryd.prog W .any base t v := hval0
  have hW' := hW
  obtain ⟨p, q, hA0, hV, rfl, hfz, hnd⟩ := hW
  have hA : DataW.TrodAll enc Tryd.prog W 0 (fun _ => true) true Tryd.f5.params.toList args.toList ds p := hA0
  rw [Tryd.params5] at hA hval
  obtain ⟨v0, vs0, d0, ds0, p0, q0, hargs, rfl, rfl, h0, r0⟩ := trodAll_cons hA
  obtain ⟨v1, vs1, d1, ds1, p1, q1, rfl, rfl, rfl, h1, r1⟩ := trodAll_cons r0
  obtain ⟨rfl, rfl, rfl⟩ := trodAll_nil r1
  obtain rfl : args = #[v0, v1] := by cases args; simp_all
  obtain ⟨rfl, rfl⟩ := trodVars_none hV
  have k0 := h0
  have lt0 : ∀ x ∈ p0, x.block < W.heap.size := by obtain ⟨m, hm⟩ := k0; exact DataW.trod_lt m _ _ _ hm
  obtain ⟨a0, b0, wa0, wb0, rfl⟩ := open_pair (hval 0 31 v0 rfl rfl) h0
  have k1 := h1
  have lt1 : ∀ x ∈ p1, x.block < W.heap.size := by obtain ⟨m, hm⟩ := k1; exact DataW.trod_lt m _ _ _ hm
  obtain ⟨a1, b1, wa1, wb1, rfl⟩ := open_pair (hval 1 31 v1 rfl rfl) h1
  clear hA0 hval0
  refine (walk a0 b0 a1 b1 wa0 wb0 wa1 wb1 W (libOk_of_laid hL)).mono fun e W' ⟨he, bel⟩ => ?_
  subst he
  exact ⟨_, rfl, _, _, _, [], _, [], hW', trodAll_mk1 (shut_bool Tryd.underlying4 _), (trodAll_cons_mk (Below.trod laidOut (by kernel_rfl) (of_decide_eq_true (by kernel_rfl)) k0 bel lt0) (trodAll_cons_mk (Below.trod laidOut (by kernel_rfl) (of_decide_eq_true (by kernel_rfl)) k1 bel lt1) trodAll_mk0)), rfl, bel.frame _, fun h => by cases h⟩

theorem over : Rows.ratioSumsRow.holds Tryd.pinned (OpenSpec.ofChange Rows.ratioSumsSpec) :=
  OpenClaim.holds_of_wide 5 Tryd.f5 rfl rfl rfl rfl rfl rfl rfl ⟨rfl, rfl, rfl, rfl, rfl⟩ rfl rfl rfl rfl rfl (by kernel_rfl) Tryd.func5 (by kernel_rfl)
    (of_decide_eq_true (by kernel_rfl)) (by unfold Func.isWrapper; first | (rw [if_pos (by decide +kernel)]; kernel_rfl) | (rw [if_neg (by decide +kernel)]; exact ⟨rfl, rfl⟩))
    (fun os started H enc _ => lifted os started H enc)

theorem card : Rows.RatioSumsCardSaid :=
  Claim7.holds_tied_plain_at .later [] [.data, .data, .data, .sentinel, .sentinel] true _ true
    over (fun _ h => by cases h) (by kernel_rfl) (fun _ h => by cases h) ratioSums_row_tie rfl ⟨rfl, rfl⟩ (by kernel_rfl) rfl
    (fun f fn hf hfn => by
      obtain rfl : f = 5 := Option.some.inj ((show Tryd.prog.funcNamed Rows.ratioSumsRow.func = some 5 by kernel_rfl).symm.trans hf) |>.symm
      obtain rfl : fn = Tryd.f5 := (Option.some.inj (Tryd.func5.symm.trans hfn)).symm
      exact ⟨by kernel_rfl, fun j t ht => by
        rw [Tryd.params5] at ht
        have hm : t ∈ [31, 31] := by simpa using Array.mem_of_getElem? ht
        have hall : ([31, 31].all fun u => !Tryd.prog.wantsStandIn u) = true := by kernel_rfl
        exact (show Tryd.prog.wantsStandIn t = false by simpa using List.all_eq_true.1 hall t hm)⟩)
    (by kernel_rfl)

end Go.Proofs.YtjaabjehegcnaaaDoor.ratioSums
namespace Go.Proofs.YtjaabjehegcnaaaDoor
theorem ratioSums_holds : Rows.RatioSumsCardSaid := ratioSums.card
#print axioms ratioSums_holds
end Go.Proofs.YtjaabjehegcnaaaDoor
