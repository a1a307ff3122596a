/-
  RatioSigns: the signs of every ratio, and the ratio of every signs, are the document's, or its error. For every two numbers of 64 bits and every text.
  Conditions: none beyond the given statement's own.
-/
import Derived.Test.YtjaabjehegcnaaaDoorRatioWalks2
import Derived.Test.YtjaabjehegcnaaaDoorSomeWalks
import Derived.Test.YtjaabjehegcnaaaDoorSignParse
import Derived.Test.YtjaabjehegcnaaaDoorLaidFrame
import Derived.ChangeMaps5
namespace Go.Proofs.YtjaabjehegcnaaaDoor.ratioSigns
set_option maxRecDepth 100000
open Go.RowKit

/-- What the loop keeps. -/
structure Keep (w : World) (g : Nat) (l : List (Int × Int)) (wr : World) : Prop where
  mk ::
  L : RList wr g l
  ok : LibOk wr
  B : Below w.heap.size w wr
theorem Keep.next {w wr w' : World} {g : Nat} {l : List (Int × Int)} (h : Keep w g l wr) (hb : Below wr.heap.size wr w') : Keep w g l w' :=
  ⟨h.L.below hb, h.ok.below hb, on h.B hb⟩
theorem txt_size {n d : Int} (hn : I64 n) (hd : I64 d) {A : ByteArray} (hA : A.data.toList = txt n d) : A.size ≤ 281474976710656 := by
  have h1 := Lib.itoa_length_le n hn.1 hn.2
  have h2 := Lib.itoa_length_le d hd.1 hd.2
  have e : A.size = A.data.toList.length := Lib.size_eq A
  rw [e, hA]
  unfold txt
  split
  · split
    · omega
    · rw [List.length_append, List.length_cons]; omega
  · simp
/-- What reading a ratio's signs says of it. -/
theorem back_or {p q : Int} (ip : I64 p) (iq : I64 q) {T : ByteArray} (hT : T.data.toList = txt p q) : (prN T.data.toList = p ∧ prD T.data.toList = q ∧ prE T.data.toList = 0) ∨ T = ⟨#[]⟩ := by
  cases h : goodB p q with
  | true => left; rw [hT]; exact good_back h ip iq
  | false =>
    right
    apply ByteArray.ext
    apply Array.toList_inj.1
    rw [hT, txt_bad h]

set_option maxHeartbeats 4000000 in
theorem walk (a b : Int) (ha : I64 a) (hb : I64 b) (s : ByteArray) (hs : s.size ≤ 281474976710656) (w : World) (hL : LibOk w) :
    Calls Tryd.prog 6 #[.agg #[.int .i64 a, .int .i64 b], .string s] w fun e w' => e = .returned (.bool true) ∧ Below w.heap.size w w' := by
  have S1 := some_any a b ha hb
  have n1 := somes_len a b
  obtain ⟨l1, h1⟩ : ∃ l, somes a b = l := ⟨_, rfl⟩
  rw [h1] at S1 n1
  clear h1
  obtain ⟨m1, hm1⟩ : ∃ m, l1.length = m := ⟨_, rfl⟩
  unfold IsSome at S1
  rw [hm1] at S1 n1
  have HM1 := Lib.hid hm1
  clear hm1
  have PS := Lib.hid (fun W hW => parse_any s hs W hW)
  have RS := Lib.hid (fun W => rparse_any s hs W)
  go_enter Tryd.func6, Tryd.ntmps6
  go_wp2_with fail
  with_reducible refine (S1 _).mono ?_
  rintro e w1 ⟨⟨g1, k1, rfl, q1, q2, R1⟩, b1⟩
  have O1 : Keep w g1 l1 w1 := ⟨R1, (hL.below (new_below w _)).below b1, on (new_below w _) b1⟩
  have H1 := Lib.hid O1
  clear O1 b1 R1 hL
  go_wp2_with fail
  go_loopw [18] (fun i wr => ∃ k : Nat, k ≤ m1 ∧ i = .int .i64 k ∧ Keep w g1 l1 wr) (fun i _ => m1 - (intOf i).toNat)
  case atStart => exact ⟨0, by omega, rfl, H1.out⟩
  case round =>
    obtain ⟨k, hk, rfl, hO⟩ := hrel
    by_cases hlt : k < m1
    · obtain ⟨p, q, hp, hq, ip, iq⟩ := hO.L.get (i := k) (by rw [HM1.out]; exact hlt)
      have HO := Lib.hid hO
      clear hO
      have OA := Lib.hid (HO.out.next (new_below wr (.cells #[.int .i64 p, .int .i64 q] 23)))
      have RA := Lib.hid (rbox_new wr p q 23)
      clear HO
      have TT := fun W => rtext_any p q ip iq W
      have PT := fun W hW => text_any p q ip iq W hW
      obtain ⟨T, eT, hT⟩ := text_ba p q
      rw [eT] at TT PT
      have PP := fun W hW => parse_any T (txt_size ip iq hT) W hW
      have BK := Lib.hid (back_or ip iq hT)
      clear eT hT
      go_wp2_with fail
      with_reducible refine (TT _).mono ?_
      rintro e w2 ⟨rfl, b2⟩
      have OB := Lib.hid (OA.out.next b2)
      have R2 := RA.out.next b2
      have RB := Lib.hid R2
      have ok2 := OB.out.ok
      clear OA RA b2 TT hp hq
      obtain ⟨c0, c1, f0, f1, hz⟩ := R2
      go_wp2_with fail
      with_reducible refine (PT _ ok2.tab).mono ?_
      rintro e w3 ⟨rfl, b3⟩
      have OC := Lib.hid (OB.out.next b3)
      have R3 := RB.out.next b3
      have RC := Lib.hid R3
      have ok3 := OC.out.ok
      clear OB RB b3 PT ok2 c0 c1 f0 f1 hz
      obtain ⟨c0, c1, f0, f1, hz⟩ := R3
      obtain ⟨x1, hx1⟩ : ∃ x, prN T.data.toList = x := ⟨_, rfl⟩
      obtain ⟨x2, hx2⟩ : ∃ x, prD T.data.toList = x := ⟨_, rfl⟩
      obtain ⟨x3, hx3⟩ : ∃ x, prE T.data.toList = x := ⟨_, rfl⟩
      have bk := BK.out
      rw [hx1, hx2, hx3] at PP bk
      have BK2 := Lib.hid bk
      clear hx1 hx2 hx3 bk BK
      go_wp2_with fail
      with_reducible refine (PP _ ok3).mono ?_
      rintro e w4 ⟨rfl, b4⟩
      have OD := Lib.hid ((OC.out.next b4).next (new_below w4 (.cells #[.int .i64 x1, .int .i64 x2] 23)))
      have R4 := RC.out.next b4
      have N4 := rbox_new w4 x1 x2 23
      clear OC RC b4 PP ok3 c0 c1 f0 f1 hz
      obtain ⟨c0, c1, f0, f1, hz⟩ := R4
      rcases BK2.out with ⟨rfl, rfl, rfl⟩ | rfl
      · clear BK2
        go_wp2
        · go_roundw
          case rel => exact ⟨k + 1, by omega, by go_num, OD.out⟩
          case measure => simp [intOf]; omega
        · go_roundw
          case rel => exact ⟨k + 1, by omega, by go_num, OD.out⟩
          case measure => simp [intOf]; omega
      · clear BK2
        go_wp2
        go_roundw
        case rel => exact ⟨k + 1, by omega, by go_num, OD.out⟩
        case measure => simp [intOf]; omega
    · obtain rfl : k = m1 := by omega
      have HO := Lib.hid hO
      have ok := hO.ok
      clear hO H1
      have P1 := PS.out
      have P2 := RS.out
      obtain ⟨i1, i2, i3⟩ := pr_in s.data.toList
      obtain ⟨x1, hx1⟩ : ∃ x, prN s.data.toList = x := ⟨_, rfl⟩
      obtain ⟨x2, hx2⟩ : ∃ x, prD s.data.toList = x := ⟨_, rfl⟩
      obtain ⟨x3, hx3⟩ : ∃ x, prE s.data.toList = x := ⟨_, rfl⟩
      rw [hx1, hx2, hx3] at P1 P2
      rw [hx1] at i1
      rw [hx2] at i2
      rw [hx3] at i3
      clear hx1 hx2 hx3
      obtain ⟨i30, i31⟩ := i3
      go_wp2_with fail
      with_reducible refine (P1 _ ok).mono ?_
      rintro e w3 ⟨rfl, b3⟩
      have OB := Lib.hid ((HO.out.next b3).next (new_below w3 (.cells #[.int .i64 x1, .int .i64 x2] 23)))
      have RB := Lib.hid (rbox_new w3 x1 x2 23)
      clear b3 HO ok P1
      go_wp2_with fail
      with_reducible refine (P2 _).mono ?_
      rintro e w4 ⟨rfl, b4⟩
      have OC := Lib.hid (OB.out.next b4)
      have R4 := RB.out.next b4
      have RC := Lib.hid R4
      have ok4 := OC.out.ok
      clear OB RB b4 P2
      obtain ⟨c0, c1, f0, f1, hz⟩ := R4
      go_wp2_with fail
      with_reducible refine (wakes_any _ ok4).mono ?_
      rintro e w5 ⟨rfl, b5⟩
      have OD := Lib.hid (OC.out.next b5)
      have R5 := RC.out.next b5
      clear OC RC b5 ok4 c0 c1 f0 f1 hz
      obtain ⟨c0, c1, f0, f1, hz⟩ := R5
      go_wp2
      go_ret
      exact ⟨rfl, OD.out.B⟩

/-! ### the row -/
open Go.ChangeShapes Go.WideShapes Go.ChangeAt
theorem lifted (os : Os) (started : os.Started) (H : Type) (enc : TypeId × Value → H) :
    ReturnsInHanded {} Tryd.checked os 6 .any (fun w args => (Rows.ratioSignsSpec.pre enc Tryd.prog Tryd.f6 [] false w args ∧ laidMetH Tryd.prog laidL w) ∧ sizedMet enc Tryd.prog Tryd.f6 (OpenSpec.ofChange Rows.ratioSignsSpec) false w args)
      (Rows.ratioSignsSpec.post enc Tryd.prog Tryd.f6 false true false false) := by
  refine returnsInHanded_of_change_and (C := Tryd.checked) (X := fun w _ => laidMetH Tryd.prog laidL w) (fun _ _ _ hh h => h.of_heap hh) own started (by kernel_rfl) Tryd.func6
    (ChangeSpec.witness_shaped (enc := enc) (C := Tryd.checked) (os := os) (X := fun w _ => laidMetH Tryd.prog laidL w) false (World.doorLaid Tryd.prog 400 os) #[.agg #[.int .i64 0, .int .i64 0], .string ⟨#[]⟩] 8 rfl (World.shaped_of_RefB (by kernel_rfl) (by kernel_rfl)) (by kernel_rfl) (by kernel_rfl) (by kernel_rfl) (door_met os _)) ?_
  intro W base args ds gs before hval0 hW _ hsz0 hL _
  have hval : ∀ (j : Nat) t v, Tryd.f6.params[j]? = some t → args[j]? = some v → Value.okWide Tryd.prog W .any base t v := hval0
  have hW' := hW
  obtain ⟨p, q, hA0, hV, rfl, hfz, hnd⟩ := hW
  have hA : DataW.TrodAll enc Tryd.prog W 0 (fun _ => true) true Tryd.f6.params.toList args.toList ds p := hA0
  rw [Tryd.params6] at hA hval
  obtain ⟨v0, vs0, d0, ds0, p0, q0, hargs, rfl, rfl, h0, r0⟩ := trodAll_cons hA
  obtain ⟨v1, vs1, d1, ds1, p1, q1, rfl, rfl, rfl, h1, r1⟩ := trodAll_cons r0
  obtain ⟨rfl, rfl, rfl⟩ := trodAll_nil r1
  obtain rfl : args = #[v0, v1] := by cases args; simp_all
  obtain ⟨rfl, rfl⟩ := trodVars_none hV
  have k0 := h0
  have lt0 : ∀ x ∈ p0, x.block < W.heap.size := by obtain ⟨m, hm⟩ := k0; exact DataW.trod_lt m _ _ _ hm
  obtain ⟨a0, b0, wa0, wb0, rfl⟩ := open_pair (hval 0 31 v0 rfl rfl) h0
  have k1 := h1
  have lt1 : ∀ x ∈ p1, x.block < W.heap.size := by obtain ⟨m, hm⟩ := k1; exact DataW.trod_lt m _ _ _ hm
  obtain ⟨s1, rfl, rfl, _, _⟩ := Go.ChangeMaps.open_string Tryd.underlying9 (hval 1 9 v1 rfl rfl) h1
  have ss1 : s1.size ≤ 281474976710656 := by
    have hz := sized_string hsz0 (j := 1) (t := 9) (bytes := s1.data.toList) (by rw [Tryd.params6]; rfl) rfl
    have hr : reachBytes < 2 ^ 47 := reachBytes_lt
    rw [← Lib.size_eq] at hz
    omega
  clear hA0 hval0
  refine (walk a0 b0 wa0 wb0 s1 ss1 W (libOk_of_laid hL)).mono fun e W' ⟨he, bel⟩ => ?_
  subst he
  exact ⟨_, rfl, _, _, _, [], _, [], hW', trodAll_mk1 (shut_bool Tryd.underlying4 _), (trodAll_cons_mk (Below.trod laidOut (by kernel_rfl) (of_decide_eq_true (by kernel_rfl)) k0 bel lt0) (trodAll_cons_mk (Below.trod laidOut (by kernel_rfl) (of_decide_eq_true (by kernel_rfl)) k1 bel lt1) trodAll_mk0)), rfl, bel.frame _, fun h => by cases h⟩

theorem over : Rows.ratioSignsRow.holds Tryd.pinned (OpenSpec.ofChange Rows.ratioSignsSpec) :=
  OpenClaim.holds_of_wide 6 Tryd.f6 rfl rfl rfl rfl rfl rfl rfl ⟨rfl, rfl, rfl, rfl, rfl⟩ rfl rfl rfl rfl rfl (by kernel_rfl) Tryd.func6 (by kernel_rfl)
    (of_decide_eq_true (by kernel_rfl)) (by unfold Func.isWrapper; first | (rw [if_pos (by decide +kernel)]; kernel_rfl) | (rw [if_neg (by decide +kernel)]; exact ⟨rfl, rfl⟩))
    (fun os started H enc _ => lifted os started H enc)

theorem card : Rows.RatioSignsCardSaid :=
  Claim7.holds_tied_plain_at .later [] [.data, .data, .data, .sentinel, .sentinel] true _ true
    over (fun _ h => by cases h) (by kernel_rfl) (fun _ h => by cases h) ratioSigns_row_tie rfl ⟨rfl, rfl⟩ (by kernel_rfl) rfl
    (fun f fn hf hfn => by
      obtain rfl : f = 6 := Option.some.inj ((show Tryd.prog.funcNamed Rows.ratioSignsRow.func = some 6 by kernel_rfl).symm.trans hf) |>.symm
      obtain rfl : fn = Tryd.f6 := (Option.some.inj (Tryd.func6.symm.trans hfn)).symm
      exact ⟨by kernel_rfl, fun j t ht => by
        rw [Tryd.params6] at ht
        have hm : t ∈ [31, 9] := by simpa using Array.mem_of_getElem? ht
        have hall : ([31, 9].all fun u => !Tryd.prog.wantsStandIn u) = true := by kernel_rfl
        exact (show Tryd.prog.wantsStandIn t = false by simpa using List.all_eq_true.1 hall t hm)⟩)
    (by kernel_rfl)

end Go.Proofs.YtjaabjehegcnaaaDoor.ratioSigns
namespace Go.Proofs.YtjaabjehegcnaaaDoor
theorem ratioSigns_holds : Rows.RatioSignsCardSaid := ratioSigns.card
#print axioms ratioSigns_holds
end Go.Proofs.YtjaabjehegcnaaaDoor
