/-
  BitsetMakes: for every number n: which sizes may be, and the empty and the full set of each, is the document's answer (P3.1). Conditions: those of the given row (the library's table of math/bits lies as its initialiser lays it).
-/
import Derived.Test.YtooehfjappckmaaDoorWakeWalks
import Derived.Test.YtooehfjappckmaaDoorBitFrame
namespace Go.Proofs.YtooehfjappckmaaDoor.bitsetMakes
set_option maxRecDepth 100000
open Go.RowKit

theorem cnt_zero (k : Nat) : cnt (fun _ => false) k = 0 := cnt_none fun _ _ => rfl
theorem cnt_full (k : Nat) : cnt (fun i => decide (i < k)) k = k := cnt_all fun j hj => by simp [hj]

set_option maxHeartbeats 8000000 in
theorem walk (n : Int) (w : World) (hn : I64 n) (hL : LibOk w) : Calls Tryd.prog 3 #[.int .i64 n] w fun e w' => e = .returned (.bool true) ∧ Below w.heap.size w w' := by
  obtain ⟨n0, n1⟩ := hn
  obtain ⟨m, hm, hm1⟩ : ∃ m : Int, m = (max 0 n) % 300 ∧ I64 m := ⟨_, rfl, by unfold I64; omega⟩
  have hm2 := hm.symm
  clear hm
  have HL := Lib.hid (hL.below (one_below w (.cells #[.int .i64 n, .int .i64 m] 3)))
  have HN : Hid (I64 n) := ⟨n0, n1⟩
  have HM := Lib.hid hm1
  clear hL hm1
  go_enter Tryd.func3, Tryd.ntmps3
  go_wp2
  go_loopw [16] (fun i wr => ∃ k : Nat, k ≤ 2 ∧ i = .int .i64 k ∧ SBox w.heap.size (.int .i64 n) (.int .i64 m) wr ∧ LibOk wr ∧ Below w.heap.size w wr) (fun i _ => 2 - (intOf i).toNat)
  case atStart => exact ⟨0, by omega, rfl, sbox_new w _ _ _, HL.out, one_below _ _⟩
  case round =>
    obtain ⟨i, hi, rfl, hS, hLr, hB⟩ := hrel
    clear HL
    by_cases hlt : i < 2
    · obtain ⟨a, hc, ha⟩ : ∃ a, wr.cell? ⟨w.heap.size, i, none⟩ = some (.int .i64 a) ∧ I64 a := by
        match i, hlt with
        | 0, _ => exact ⟨n, hS.c0, HN.out⟩
        | 1, _ => exact ⟨m, hS.c1, HM.out⟩
      have hs := hS.size
      have HS := Lib.hid hS
      have HLr := Lib.hid hLr
      have HB := Lib.hid hB
      clear hS hLr hB hm2
      by_cases hg : 0 ≤ a ∧ a ≤ 4096
      · obtain ⟨g0, g1⟩ := hg
        obtain ⟨k, rfl⟩ := Int.eq_ofNat_of_zero_le g0
        have hk : k ≤ 4096 := by omega
        clear ha
        have NW := new_good k hk
        have FU := full_good k hk
        have SI := fun s W => size_any k s W
        have C0 : ∀ x cap W, SetAt W k (fun _ => false) x cap → Calls Tryd.prog 11 #[.agg #[.int .i64 k, .slice x (nw k) cap]] W fun e w' => e = .returned (.int .i64 0) ∧ Below W.heap.size W w' := by
          intro x cap W h
          have := count_any (.int .i64 k) k x cap _ W h
          rw [cnt_zero] at this
          exact this
        have C1 : ∀ x cap W, SetAt W k (fun i => decide (i < k)) x cap → Calls Tryd.prog 11 #[.agg #[.int .i64 k, .slice x (nw k) cap]] W fun e w' => e = .returned (.int .i64 k) ∧ Below W.heap.size W w' := by
          intro x cap W h
          have := count_any (.int .i64 k) k x cap _ W h
          rw [cnt_full] at this
          exact this
        have H1 : ∀ x cap W, SetAt W k (fun i => decide (i < k)) x cap → Calls Tryd.prog 12 #[.agg #[.int .i64 k, .slice x (nw k) cap], .int .i64 ((k : Int) - 1)] W fun e w' => e = .returned (.bool (decide (0 < k))) ∧ Below W.heap.size W w' := by
          intro x cap W h
          have := has_any k x cap _ ((k : Int) - 1) W h
          rw [show has (fun i => decide (i < k)) ((k : Int) - 1) = decide (0 < k) by
            unfold has
            by_cases h0 : 0 < k
            · rw [decide_eq_true (show (0 : Int) ≤ (k : Int) - 1 by omega), decide_eq_true h0]; simp; omega
            · rw [decide_eq_false (show ¬ (0 : Int) ≤ (k : Int) - 1 by omega), decide_eq_false h0]; rfl] at this
          exact this
        have H2 : ∀ x cap W, SetAt W k (fun i => decide (i < k)) x cap → Calls Tryd.prog 12 #[.agg #[.int .i64 k, .slice x (nw k) cap], .int .i64 k] W fun e w' => e = .returned (.bool false) ∧ Below W.heap.size W w' := by
          intro x cap W h
          have := has_any k x cap _ (k : Int) W h
          rw [show has (fun i => decide (i < k)) (k : Int) = false by
            unfold has
            rw [show ((k : Int).toNat) = k by omega]
            simp] at this
          exact this
        have N1 : ∀ x cap W, SetAt W k (fun _ => false) x cap → LibOk W → Calls Tryd.prog 13 #[.agg #[.int .i64 k, .slice x (nw k) cap], .int .i64 0] W fun e w' => e = .returned (.int .i64 (-1)) ∧ Below W.heap.size W w' := by
          intro x cap W h hL
          have := next_any k x cap _ 0 W h hL
          rw [show nxI k (fun _ => false) 0 = -1 from nx_none fun _ _ _ => rfl] at this
          exact this
        go_wp2_with fail
        with_reducible refine (NW _).mono ?_
        rintro e w1 ⟨⟨x, c, rfl, S1⟩, b1⟩
        have ba := on b1 (one_below w1 (.cells #[.int .i64 k, .slice x (nw k) c] 25))
        have SA := Lib.hid (S1.below (one_below w1 (.cells #[.int .i64 k, .slice x (nw k) c] 25)))
        have TA := Lib.hid (sbox_new w1 (.int .i64 k) (.slice x (nw k) c) 25)
        have HS := Lib.hid (HS.out.next ba)
        have HLr := Lib.hid (HLr.out.below ba)
        have HB := Lib.hid (on HB.out ba)
        clear b1 ba S1 hc NW
        go_wp2_with fail
        with_reducible refine (FU _).mono ?_
        rintro e w2 ⟨⟨x2, c2, rfl, S2⟩, b2⟩
        have ba := on b2 (one_below w2 (.cells #[.int .i64 k, .slice x2 (nw k) c2] 25))
        have SB := Lib.hid (S2.below (one_below w2 (.cells #[.int .i64 k, .slice x2 (nw k) c2] 25)))
        have TB := Lib.hid (sbox_new w2 (.int .i64 k) (.slice x2 (nw k) c2) 25)
        have SA := Lib.hid (SA.out.below ba)
        have TA := Lib.hid (TA.out.next ba)
        have HS := Lib.hid (HS.out.next ba)
        have HLr := Lib.hid (HLr.out.below ba)
        have HB := Lib.hid (on HB.out ba)
        clear b2 ba S2 FU
        obtain ⟨ta0, ta1, ta2, ta3, ta4⟩ := TA.out
        obtain ⟨tb0, tb1, tb2, tb3, tb4⟩ := TB.out
        go_wp2_with fail
        with_reducible refine (SI _ _).mono ?_
        rintro e w3 ⟨rfl, b⟩
        have SA := Lib.hid (SA.out.below b)
        have SB := Lib.hid (SB.out.below b)
        have TA := Lib.hid (TA.out.next b)
        have TB := Lib.hid (TB.out.next b)
        have HS := Lib.hid (HS.out.next b)
        have HLr := Lib.hid (HLr.out.below b)
        have HB := Lib.hid (on HB.out b)
        clear ta0 ta1 ta2 ta3 ta4 tb0 tb1 tb2 tb3 tb4 b
        obtain ⟨ta0, ta1, ta2, ta3, ta4⟩ := TA.out
        obtain ⟨tb0, tb1, tb2, tb3, tb4⟩ := TB.out
        go_wp2_with fail
        with_reducible refine (SI _ _).mono ?_
        rintro e w4 ⟨rfl, b⟩
        have SA := Lib.hid (SA.out.below b)
        have SB := Lib.hid (SB.out.below b)
        have TA := Lib.hid (TA.out.next b)
        have TB := Lib.hid (TB.out.next b)
        have HS := Lib.hid (HS.out.next b)
        have HLr := Lib.hid (HLr.out.below b)
        have HB := Lib.hid (on HB.out b)
        clear ta0 ta1 ta2 ta3 ta4 tb0 tb1 tb2 tb3 tb4 b
        obtain ⟨ta0, ta1, ta2, ta3, ta4⟩ := TA.out
        obtain ⟨tb0, tb1, tb2, tb3, tb4⟩ := TB.out
        go_wp2_with fail
        with_reducible refine (C0 _ _ _ SA.out).mono ?_
        rintro e w5 ⟨rfl, b⟩
        have SA := Lib.hid (SA.out.below b)
        have SB := Lib.hid (SB.out.below b)
        have TA := Lib.hid (TA.out.next b)
        have TB := Lib.hid (TB.out.next b)
        have HS := Lib.hid (HS.out.next b)
        have HLr := Lib.hid (HLr.out.below b)
        have HB := Lib.hid (on HB.out b)
        clear ta0 ta1 ta2 ta3 ta4 tb0 tb1 tb2 tb3 tb4 b
        obtain ⟨ta0, ta1, ta2, ta3, ta4⟩ := TA.out
        obtain ⟨tb0, tb1, tb2, tb3, tb4⟩ := TB.out
        go_wp2_with fail
        with_reducible refine (C1 _ _ _ SB.out).mono ?_
        rintro e w6 ⟨rfl, b⟩
        have SA := Lib.hid (SA.out.below b)
        have SB := Lib.hid (SB.out.below b)
        have TA := Lib.hid (TA.out.next b)
        have TB := Lib.hid (TB.out.next b)
        have HS := Lib.hid (HS.out.next b)
        have HLr := Lib.hid (HLr.out.below b)
        have HB := Lib.hid (on HB.out b)
        clear ta0 ta1 ta2 ta3 ta4 tb0 tb1 tb2 tb3 tb4 b
        obtain ⟨ta0, ta1, ta2, ta3, ta4⟩ := TA.out
        obtain ⟨tb0, tb1, tb2, tb3, tb4⟩ := TB.out
        by_cases hk0 : 0 < k
        · rw [decide_eq_true hk0] at H1
          go_wp2_with fail
          with_reducible refine (H1 _ _ _ SB.out).mono ?_
          rintro e w7 ⟨rfl, b⟩
          have SA := Lib.hid (SA.out.below b)
          have SB := Lib.hid (SB.out.below b)
          have TA := Lib.hid (TA.out.next b)
          have TB := Lib.hid (TB.out.next b)
          have HS := Lib.hid (HS.out.next b)
          have HLr := Lib.hid (HLr.out.below b)
          have HB := Lib.hid (on HB.out b)
          clear ta0 ta1 ta2 ta3 ta4 tb0 tb1 tb2 tb3 tb4 b
          obtain ⟨ta0, ta1, ta2, ta3, ta4⟩ := TA.out
          obtain ⟨tb0, tb1, tb2, tb3, tb4⟩ := TB.out
          go_wp2_with fail
          with_reducible refine (H2 _ _ _ SB.out).mono ?_
          rintro e w8 ⟨rfl, b⟩
          have SA := Lib.hid (SA.out.below b)
          have SB := Lib.hid (SB.out.below b)
          have TA := Lib.hid (TA.out.next b)
          have TB := Lib.hid (TB.out.next b)
          have HS := Lib.hid (HS.out.next b)
          have HLr := Lib.hid (HLr.out.below b)
          have HB := Lib.hid (on HB.out b)
          clear ta0 ta1 ta2 ta3 ta4 tb0 tb1 tb2 tb3 tb4 b
          obtain ⟨ta0, ta1, ta2, ta3, ta4⟩ := TA.out
          obtain ⟨tb0, tb1, tb2, tb3, tb4⟩ := TB.out
          go_wp2_with fail
          with_reducible refine (N1 _ _ _ SA.out HLr.out).mono ?_
          rintro e w9 ⟨rfl, b⟩
          have SA := Lib.hid (SA.out.below b)
          have SB := Lib.hid (SB.out.below b)
          have TA := Lib.hid (TA.out.next b)
          have TB := Lib.hid (TB.out.next b)
          have HS := Lib.hid (HS.out.next b)
          have HLr := Lib.hid (HLr.out.below b)
          have HB := Lib.hid (on HB.out b)
          clear ta0 ta1 ta2 ta3 ta4 tb0 tb1 tb2 tb3 tb4 b
          obtain ⟨ta0, ta1, ta2, ta3, ta4⟩ := TA.out
          obtain ⟨tb0, tb1, tb2, tb3, tb4⟩ := TB.out
          go_wp2
          go_roundw
          case rel => exact ⟨i + 1, by omega, by go_num, HS.out, HLr.out, HB.out⟩
          case measure => simp [intOf]; omega
        · rw [decide_eq_false hk0] at H1
          have hk1 : ¬ (0 < (k : Int)) := by omega
          go_wp2_with fail
          with_reducible refine (H1 _ _ _ SB.out).mono ?_
          rintro e w7 ⟨rfl, b⟩
          have SA := Lib.hid (SA.out.below b)
          have SB := Lib.hid (SB.out.below b)
          have TA := Lib.hid (TA.out.next b)
          have TB := Lib.hid (TB.out.next b)
          have HS := Lib.hid (HS.out.next b)
          have HLr := Lib.hid (HLr.out.below b)
          have HB := Lib.hid (on HB.out b)
          clear ta0 ta1 ta2 ta3 ta4 tb0 tb1 tb2 tb3 tb4 b
          obtain ⟨ta0, ta1, ta2, ta3, ta4⟩ := TA.out
          obtain ⟨tb0, tb1, tb2, tb3, tb4⟩ := TB.out
          go_wp2_with fail
          with_reducible refine (H2 _ _ _ SB.out).mono ?_
          rintro e w8 ⟨rfl, b⟩
          have SA := Lib.hid (SA.out.below b)
          have SB := Lib.hid (SB.out.below b)
          have TA := Lib.hid (TA.out.next b)
          have TB := Lib.hid (TB.out.next b)
          have HS := Lib.hid (HS.out.next b)
          have HLr := Lib.hid (HLr.out.below b)
          have HB := Lib.hid (on HB.out b)
          clear ta0 ta1 ta2 ta3 ta4 tb0 tb1 tb2 tb3 tb4 b
          obtain ⟨ta0, ta1, ta2, ta3, ta4⟩ := TA.out
          obtain ⟨tb0, tb1, tb2, tb3, tb4⟩ := TB.out
          go_wp2_with fail
          with_reducible refine (N1 _ _ _ SA.out HLr.out).mono ?_
          rintro e w9 ⟨rfl, b⟩
          have SA := Lib.hid (SA.out.below b)
          have SB := Lib.hid (SB.out.below b)
          have TA := Lib.hid (TA.out.next b)
          have TB := Lib.hid (TB.out.next b)
          have HS := Lib.hid (HS.out.next b)
          have HLr := Lib.hid (HLr.out.below b)
          have HB := Lib.hid (on HB.out b)
          clear ta0 ta1 ta2 ta3 ta4 tb0 tb1 tb2 tb3 tb4 b
          obtain ⟨ta0, ta1, ta2, ta3, ta4⟩ := TA.out
          obtain ⟨tb0, tb1, tb2, tb3, tb4⟩ := TB.out
          go_wp2
          go_roundw
          case rel => exact ⟨i + 1, by omega, by go_num, HS.out, HLr.out, HB.out⟩
          case measure => simp [intOf]; omega
      · have NW := new_bad a hg
        have FU := full_bad a hg
        obtain ⟨a0, a1⟩ := ha
        go_wp2_with fail
        with_reducible refine (NW _).mono ?_
        rintro e w1 ⟨rfl, b1⟩
        have ba := on b1 (one_below w1 (.cells #[.int .i64 0, .slice none 0 0] 25))
        have HS := Lib.hid (HS.out.next ba)
        have HLr := Lib.hid (HLr.out.below ba)
        have HB := Lib.hid (on HB.out ba)
        clear b1 ba hc NW
        go_wp2_with fail
        with_reducible refine (FU _).mono ?_
        rintro e w2 ⟨rfl, b2⟩
        have ba := on b2 (one_below w2 (.cells #[.int .i64 0, .slice none 0 0] 25))
        have HS := Lib.hid (HS.out.next ba)
        have HLr := Lib.hid (HLr.out.below ba)
        have HB := Lib.hid (on HB.out ba)
        clear b2 ba FU
        by_cases hneg : 0 ≤ a
        · have hgt : ¬ (a ≤ 4096) := fun h => hg ⟨hneg, h⟩
          have hgd : decide (a ≤ 4096) = false := decide_eq_false hgt
          clear hg
          go_wp2
          go_roundw
          case rel => exact ⟨i + 1, by omega, by go_num, HS.out, HLr.out, HB.out⟩
          case measure => simp [intOf]; omega
        · clear hg
          go_wp2
          go_roundw
          case rel => exact ⟨i + 1, by omega, by go_num, HS.out, HLr.out, HB.out⟩
          case measure => simp [intOf]; omega
    · obtain rfl : i = 2 := by omega
      have WA := wakes_any wr hLr
      have HB := Lib.hid hB
      clear hS hLr hB hm2
      go_wp2_with fail
      with_reducible refine WA.mono ?_
      rintro e w1 ⟨rfl, b1⟩
      have B := on HB.out b1
      clear b1 HB
      go_wp2
      go_ret
      exact ⟨rfl, B⟩

/-! ### the row -/
open Go.ChangeShapes Go.WideShapes Go.ChangeAt
theorem lifted (os : Os) (started : os.Started) (H : Type) (enc : TypeId × Value → H) :
    ReturnsInHanded {} Tryd.checked os 3 .any (fun w args => (Rows.bitsetMakesSpec.pre enc Tryd.prog Tryd.f3 [] false w args ∧ laidMetH Tryd.prog laidL w) ∧ sizedMet enc Tryd.prog Tryd.f3 (OpenSpec.ofChange Rows.bitsetMakesSpec) false w args)
      (Rows.bitsetMakesSpec.post enc Tryd.prog Tryd.f3 false true false false) := by
  refine returnsInHanded_of_change_and (C := Tryd.checked) (X := fun w _ => laidMetH Tryd.prog laidL w) (fun _ _ _ hh h => h.of_heap hh) own started (by kernel_rfl) Tryd.func3
    (ChangeSpec.witness_shaped (enc := enc) (C := Tryd.checked) (os := os) (X := fun w _ => laidMetH Tryd.prog laidL w) false (World.doorLaid Tryd.prog 400 os) #[.int .i64 0] 8 rfl (World.shaped_of_RefB (by kernel_rfl) (by kernel_rfl)) (by kernel_rfl) (by kernel_rfl) (by kernel_rfl) (door_met os _)) ?_
  intro W base args ds gs before hval0 hW _ hsz0 hL _
  have hval : ∀ (j : Nat) t v, Tryd.f3.params[j]? = some t → args[j]? = some v → Value.okWide Tryd.prog W .any base t v := hval0
  have hW' := hW
  obtain ⟨p, q, hA0, hV, rfl, hfz, hnd⟩ := hW
  have hA : DataW.TrodAll enc Tryd.prog W 0 (fun _ => true) true Tryd.f3.params.toList args.toList ds p := hA0
  rw [Tryd.params3] at hA hval
  obtain ⟨v0, vs0, d0, ds0, p0, q0, hargs, rfl, rfl, h0, r0⟩ := trodAll_cons hA
  obtain ⟨rfl, rfl, rfl⟩ := trodAll_nil r0
  obtain rfl : args = #[v0] := by cases args; simp_all
  obtain ⟨rfl, rfl⟩ := trodVars_none hV
  have k0 := h0
  have lt0 : ∀ x ∈ p0, x.block < W.heap.size := by obtain ⟨m, hm⟩ := k0; exact DataW.trod_lt m _ _ _ hm
  obtain ⟨a0, w0, rfl⟩ := open_num (hval 0 3 v0 rfl rfl) h0
  clear hA0 hval0
  refine (walk a0 W w0 (libOk_of_laid hL)).mono fun e W' ⟨he, bel⟩ => ?_
  subst he
  exact ⟨_, rfl, _, _, _, [], _, [], hW', trodAll_mk1 (shut_bool Tryd.underlying4 _), (trodAll_cons_mk (Below.trod laidOut (by kernel_rfl) (of_decide_eq_true (by kernel_rfl)) k0 bel lt0) trodAll_mk0), rfl, bel.frame _, fun h => by cases h⟩

theorem over : Rows.bitsetMakesRow.holds Tryd.pinned (OpenSpec.ofChange Rows.bitsetMakesSpec) :=
  OpenClaim.holds_of_wide 3 Tryd.f3 rfl rfl rfl rfl rfl rfl rfl ⟨rfl, rfl, rfl, rfl, rfl⟩ rfl rfl rfl rfl rfl (by kernel_rfl) Tryd.func3 (by kernel_rfl)
    (of_decide_eq_true (by kernel_rfl)) (by unfold Func.isWrapper; first | (rw [if_pos (by decide +kernel)]; kernel_rfl) | (rw [if_neg (by decide +kernel)]; exact ⟨rfl, rfl⟩))
    (fun os started H enc _ => lifted os started H enc)

theorem card : Rows.BitsetMakesCardSaid :=
  Claim7.holds_tied_plain_at .later [] [.data] true _ false
    over (fun _ h => by cases h) (by kernel_rfl) (fun _ h => by cases h) bitsetMakes_row_tie rfl ⟨rfl, rfl⟩ (by kernel_rfl) rfl
    (fun f fn hf hfn => by
      obtain rfl : f = 3 := Option.some.inj ((show Tryd.prog.funcNamed Rows.bitsetMakesRow.func = some 3 by kernel_rfl).symm.trans hf) |>.symm
      obtain rfl : fn = Tryd.f3 := (Option.some.inj (Tryd.func3.symm.trans hfn)).symm
      exact ⟨by kernel_rfl, fun j t ht => by
        rw [Tryd.params3] at ht
        have hm : t ∈ [3] := by simpa using Array.mem_of_getElem? ht
        have hall : ([3].all fun u => !Tryd.prog.wantsStandIn u) = true := by kernel_rfl
        exact (show Tryd.prog.wantsStandIn t = false by simpa using List.all_eq_true.1 hall t hm)⟩)
    (by kernel_rfl)

end Go.Proofs.YtooehfjappckmaaDoor.bitsetMakes
namespace Go.Proofs.YtooehfjappckmaaDoor
theorem bitsetMakes_holds : Rows.BitsetMakesCardSaid := bitsetMakes.card
#print axioms bitsetMakes_holds
end Go.Proofs.YtooehfjappckmaaDoor
