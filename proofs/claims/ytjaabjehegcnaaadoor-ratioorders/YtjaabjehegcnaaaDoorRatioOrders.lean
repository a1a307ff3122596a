/-
  RatioOrders: which of every two ratios is the greater one, and each rounded down and up, is the document's answer. For every four numbers of 64 bits.
  Conditions: none beyond the given statement's own.
-/
import Derived.Test.YtjaabjehegcnaaaDoorLoopKit
import Derived.Test.YtjaabjehegcnaaaDoorRefWalks2
import Derived.Test.YtjaabjehegcnaaaDoorLaidFrame
namespace Go.Proofs.YtjaabjehegcnaaaDoor.ratioOrders
set_option maxRecDepth 100000
open Go.RowKit

set_option maxHeartbeats 4000000 in
theorem walk (a b c d : Int) (ha : I64 a) (hb : I64 b) (hc : I64 c) (hd : I64 d) (w : World) (hL : LibOk w) :
    Calls Tryd.prog 4 #[.agg #[.int .i64 a, .int .i64 b], .agg #[.int .i64 c, .int .i64 d]] w fun e w' => e = .returned (.bool true) ∧ Below w.heap.size w w' := by
  have S1 := some_any a b ha hb
  have S2 := some_any c d hc hd
  have n1 := somes_len a b
  have n2 := somes_len c d
  obtain ⟨l1, h1⟩ : ∃ l, somes a b = l := ⟨_, rfl⟩
  obtain ⟨l2, h2⟩ : ∃ l, somes c d = l := ⟨_, rfl⟩
  rw [h1] at S1 n1
  rw [h2] at S2 n2
  clear h1 h2
  obtain ⟨m1, hm1⟩ : ∃ m, l1.length = m := ⟨_, rfl⟩
  obtain ⟨m2, hm2⟩ : ∃ m, l2.length = m := ⟨_, rfl⟩
  unfold IsSome at S1 S2
  rw [hm1] at S1 n1
  rw [hm2] at S2 n2
  have HM1 := Lib.hid hm1
  have HM2 := Lib.hid hm2
  clear hm1 hm2
  go_enter Tryd.func4, Tryd.ntmps4
  go_wp2_with fail
  with_reducible refine (S1 _).mono ?_
  rintro e w1 ⟨⟨g1, k1, rfl, q1, q2, R1⟩, b1⟩
  have O1 : Out w g1 l1 c d w1 := ⟨R1, (((rbox_new2 w (.cells #[.int .i64 a, .int .i64 b] 31) c d 31)).next b1), (hL.below (two_new w _ _)).below b1, on (two_new w _ _) b1⟩
  have H1 := Lib.hid O1
  clear O1 b1 R1 hL
  go_wp2_with fail
  go_loopw [12] (fun i wr => ∃ k : Nat, k ≤ m1 ∧ i = .int .i64 k ∧ Out w g1 l1 c d wr) (fun i _ => m1 - (intOf i).toNat)
  case atStart => exact ⟨0, by omega, rfl, H1.out⟩
  case round =>
    obtain ⟨k, hk, rfl, hO⟩ := hrel
    obtain ⟨wO, hwO⟩ : ∃ x, x = wr := ⟨wr, rfl⟩
    subst hwO
    by_cases hlt : k < m1
    · obtain ⟨p, q, hp, hq, hi⟩ := hO.L.get (i := k) (by rw [HM1.out]; exact hlt)
      have HO := Lib.hid hO
      obtain ⟨y0, y1, y2, y3, y4⟩ := hO.Y
      clear hO
      obtain ⟨ip, iq⟩ := hi
      have bA := new_below wO (.cells #[.int .i64 p, .int .i64 q] 23)
      have OA := Lib.hid (HO.out.next bA)
      have RA := Lib.hid (rbox_new wO p q 23)
      clear bA HO
      go_wp2_with fail
      with_reducible refine (S2 _).mono ?_
      rintro e w2 ⟨⟨g2, k2, rfl, r1, r2, R2⟩, b2⟩
      have HI := Lib.hid (Inn.mk (OA.out.next b2) (RA.out.next b2) R2)
      clear b2 R2 OA RA y0 y1 y2 y3 y4 hp hq
      have C := fun r s ir is => rcmpP p q r s ip iq ir is
      have D := fun r s ir is => rrcmp_any p q r s ip iq ir is
      have HC := Lib.hid C
      have HD := Lib.hid D
      clear C D
      go_wp2_with fail
      go_loopw [19] (fun i wr' => ∃ k' : Nat, k' ≤ m2 ∧ i = .int .i64 k' ∧ Inn w g1 l1 c d wO.heap.size p q g2 l2 wr') (fun i _ => m2 - (intOf i).toNat)
      case atStart => exact ⟨0, by omega, rfl, HI.out⟩
      case round =>
        obtain ⟨k', hk', rfl, hN⟩ := hrel
        by_cases hlt' : k' < m2
        · obtain ⟨r, s, hr, hs, ir, is⟩ := hN.M.get (i := k') (by rw [HM2.out]; exact hlt')
          have HN := Lib.hid hN
          have CM := HC.out r s ir is
          have DM := HD.out r s ir is
          obtain ⟨a0, a1, a2, a3, a4⟩ := hN.A
          clear hN
          have NA := Lib.hid (HN.out.next (new_below wr (.cells #[.int .i64 r, .int .i64 s] 23)))
          have NB := Lib.hid (rbox_new wr r s 23)
          have zz := a4
          clear HN
          go_wp2_with fail
          go_region_held3 (fun w' => w'.cell? ⟨wO.heap.size, 0, none⟩ = some (.int .i64 p) ∧ w'.cell? ⟨wO.heap.size, 1, none⟩ = some (.int .i64 q) ∧ w'.cell? ⟨wr.heap.size, 0, none⟩ = some (.int .i64 r) ∧ w'.cell? ⟨wr.heap.size, 1, none⟩ = some (.int .i64 s)) (first | exact two_cells NA.out.A.drew1 NB.out.drew1 | exact two_cells (NA.out.A.drew1.next b3) (NB.out.drew1.next b3) | exact two_cells ((NA.out.A.drew1.next b3).next b4) ((NB.out.drew1.next b3).next b4))
            (first
              | (go_at_call 18; (with_reducible refine (CM _).mono ?_); rintro e w3 ⟨rfl, b3⟩)
              | (go_at_call 19; (with_reducible refine (DM _).mono ?_); rintro e w4 ⟨rfl, b4⟩))
          have HI4 := Lib.hid ((NA.out.next (Below.refl _ _).drew).next b3 |>.next b4)
          clear NA NB b3 b4 a0 a1 a2 a3 a4 hr hs CM DM
          go_wp2
          go_roundw
          case rel => exact ⟨k' + 1, by omega, by go_num, HI4.out⟩
          case measure => simp [intOf]; omega
        · obtain rfl : k' = m2 := by omega
          have HN := Lib.hid hN
          obtain ⟨a0, a1, a2, a3, a4⟩ := hN.A
          clear hN HI HC HD
          have F := rfloorP p q ip iq
          have E := rceilP p q ip iq
          have FF := rwhole_any p q false ip iq
          have EE := rwhole_any p q true ip iq
          rw [show (if (false : Bool) = true then cei p q else flo p q) = flo p q from rfl] at FF
          rw [show (if (true : Bool) = true then cei p q else flo p q) = cei p q from rfl] at EE
          go_wp2_with fail
          go_region_held3 (fun w' => w'.cell? ⟨wO.heap.size, 0, none⟩ = some (.int .i64 p) ∧ w'.cell? ⟨wO.heap.size, 1, none⟩ = some (.int .i64 q)) (first | exact one_cells HN.out.A.drew1 | exact one_cells (HN.out.A.drew1.next b3) | exact one_cells ((HN.out.A.drew1.next b3).next b4) | exact one_cells (((HN.out.A.drew1.next b3).next b4).next b5) | exact one_cells ((((HN.out.A.drew1.next b3).next b4).next b5).next b6))
            (first
              | (go_at_call 20; (with_reducible refine (F _).mono ?_); rintro e w3 ⟨rfl, b3⟩)
              | (go_at_call 22; (with_reducible refine (E _).mono ?_); rintro e w5 ⟨rfl, b5⟩)
              | (go_at_call 21; first | ((with_reducible refine (FF _).mono ?_); rintro e w4 ⟨rfl, b4⟩) | ((with_reducible refine (EE _).mono ?_); rintro e w6 ⟨rfl, b6⟩)))
          have HO6 := Lib.hid (((((HN.out.O.next (Below.refl _ _).drew).next b3).next b4).next b5).next b6)
          clear HN b3 b4 b5 b6 a0 a1 a2 a3 a4 F E FF EE S1 S2
          go_wp2
          go_roundw
          case rel => exact ⟨k + 1, by omega, by go_num, HO6.out⟩
          case measure => simp [intOf]; omega
    · obtain rfl : k = m1 := by omega
      have HO := Lib.hid hO
      have ok := hO.ok
      clear hO H1
      go_wp2_with fail
      with_reducible refine (wakes_any _ ok).mono ?_
      rintro e w3 ⟨rfl, b3⟩
      go_wp2
      go_ret
      exact ⟨rfl, on HO.out.B b3⟩

/-! ### the row -/
open Go.ChangeShapes Go.WideShapes Go.ChangeAt
theorem lifted (os : Os) (started : os.Started) (H : Type) (enc : TypeId × Value → H) :
    ReturnsInHanded {} Tryd.checked os 4 .any (fun w args => (Rows.ratioOrdersSpec.pre enc Tryd.prog Tryd.f4 [] false w args ∧ laidMetH Tryd.prog laidL w) ∧ sizedMet enc Tryd.prog Tryd.f4 (OpenSpec.ofChange Rows.ratioOrdersSpec) false w args)
      (Rows.ratioOrdersSpec.post enc Tryd.prog Tryd.f4 false true false false) := by
  refine returnsInHanded_of_change_and (C := Tryd.checked) (X := fun w _ => laidMetH Tryd.prog laidL w) (fun _ _ _ hh h => h.of_heap hh) own started (by kernel_rfl) Tryd.func4
    (ChangeSpec.witness_shaped (enc := enc) (C := Tryd.checked) (os := os) (X := fun w _ => laidMetH Tryd.prog laidL w) false (World.doorLaid Tryd.prog 400 os) #[.agg #[.int .i64 0, .int .i64 0], .agg #[.int .i64 0, .int .i64 0]] 8 rfl (World.shaped_of_RefB (by kernel_rfl) (by kernel_rfl)) (by kernel_rfl) (by kernel_rfl) (by kernel_rfl) (door_met os _)) ?_
  intro W base args ds gs before hval0 hW _ hsz0 hL _
  have hval : ∀ (j : Nat) t v, Tryd.f4.params[j]? = some t → args[j]? = some v → Value.okWide Tryd.prog W .any base t v := hval0
  have hW' := hW
  obtain ⟨p, q, hA0, hV, rfl, hfz, hnd⟩ := hW
  have hA : DataW.TrodAll enc Tryd.prog W 0 (fun _ => true) true Tryd.f4.params.toList args.toList ds p := hA0
  rw [Tryd.params4] at hA hval
  obtain ⟨v0, vs0, d0, ds0, p0, q0, hargs, rfl, rfl, h0, r0⟩ := trodAll_cons hA
  obtain ⟨v1, vs1, d1, ds1, p1, q1, rfl, rfl, rfl, h1, r1⟩ := trodAll_cons r0
  obtain ⟨rfl, rfl, rfl⟩ := trodAll_nil r1
  obtain rfl : args = #[v0, v1] := by cases args; simp_all
  obtain ⟨rfl, rfl⟩ := trodVars_none hV
  have k0 := h0
  have lt0 : ∀ x ∈ p0, x.block < W.heap.size := by obtain ⟨m, hm⟩ := k0; exact DataW.trod_lt m _ _ _ hm
  obtain ⟨a0, b0, wa0, wb0, rfl⟩ := open_pair (hval 0 31 v0 rfl rfl) h0
  have k1 := h1
  have lt1 : ∀ x ∈ p1, x.block < W.heap.size := by obtain ⟨m, hm⟩ := k1; exact DataW.trod_lt m _ _ _ hm
  obtain ⟨a1, b1, wa1, wb1, rfl⟩ := open_pair (hval 1 31 v1 rfl rfl) h1
  clear hA0 hval0
  refine (walk a0 b0 a1 b1 wa0 wb0 wa1 wb1 W (libOk_of_laid hL)).mono fun e W' ⟨he, bel⟩ => ?_
  subst he
  exact ⟨_, rfl, _, _, _, [], _, [], hW', trodAll_mk1 (shut_bool Tryd.underlying4 _), (trodAll_cons_mk (Below.trod laidOut (by kernel_rfl) (of_decide_eq_true (by kernel_rfl)) k0 bel lt0) (trodAll_cons_mk (Below.trod laidOut (by kernel_rfl) (of_decide_eq_true (by kernel_rfl)) k1 bel lt1) trodAll_mk0)), rfl, bel.frame _, fun h => by cases h⟩

theorem over : Rows.ratioOrdersRow.holds Tryd.pinned (OpenSpec.ofChange Rows.ratioOrdersSpec) :=
  OpenClaim.holds_of_wide 4 Tryd.f4 rfl rfl rfl rfl rfl rfl rfl ⟨rfl, rfl, rfl, rfl, rfl⟩ rfl rfl rfl rfl rfl (by kernel_rfl) Tryd.func4 (by kernel_rfl)
    (of_decide_eq_true (by kernel_rfl)) (by unfold Func.isWrapper; first | (rw [if_pos (by decide +kernel)]; kernel_rfl) | (rw [if_neg (by decide +kernel)]; exact ⟨rfl, rfl⟩))
    (fun os started H enc _ => lifted os started H enc)

theorem card : Rows.RatioOrdersCardSaid :=
  Claim7.holds_tied_plain_at .later [] [.data, .data, .data, .sentinel, .sentinel] true _ true
    over (fun _ h => by cases h) (by kernel_rfl) (fun _ h => by cases h) ratioOrders_row_tie rfl ⟨rfl, rfl⟩ (by kernel_rfl) rfl
    (fun f fn hf hfn => by
      obtain rfl : f = 4 := Option.some.inj ((show Tryd.prog.funcNamed Rows.ratioOrdersRow.func = some 4 by kernel_rfl).symm.trans hf) |>.symm
      obtain rfl : fn = Tryd.f4 := (Option.some.inj (Tryd.func4.symm.trans hfn)).symm
      exact ⟨by kernel_rfl, fun j t ht => by
        rw [Tryd.params4] at ht
        have hm : t ∈ [31, 31] := by simpa using Array.mem_of_getElem? ht
        have hall : ([31, 31].all fun u => !Tryd.prog.wantsStandIn u) = true := by kernel_rfl
        exact (show Tryd.prog.wantsStandIn t = false by simpa using List.all_eq_true.1 hall t hm)⟩)
    (by kernel_rfl)

end Go.Proofs.YtjaabjehegcnaaaDoor.ratioOrders
namespace Go.Proofs.YtjaabjehegcnaaaDoor
theorem ratioOrders_holds : Rows.RatioOrdersCardSaid := ratioOrders.card
#print axioms ratioOrders_holds
end Go.Proofs.YtjaabjehegcnaaaDoor
