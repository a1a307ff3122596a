/-
  ShowBack: whatever instance comes in, what is printed of the one that is made of it (so that it may be, with few decisions) is parsed to the same instance, and is tidy. For every instance, wherever it lies; under the row's own condition on the listed variables of Go's library and of the project.
-/
import Derived.Test.YtbadingdklenhaaGreatDoorL11TameS12M
import Derived.Test.YtbadingdklenhaaGreatDoorShowFrame
import Derived.Test.YtbadingdklenhaaGreatDoorInstEqB
import Derived.SevenTiedAt
namespace Go.Proofs.YtbadingdklenhaaGreatDoor.showBack
set_option maxRecDepth 100000
open Go.RowKit Go.Proofs.YtbadingdklenhaaGreatDoor

theorem shape {F G : Nat → Prop} {w : World} {I J : In} {a b c : Value} (h : Ins F G w (inV I a b c) J) : (∃ A n C, a = .slice A n C) ∧ (∃ A n C, b = .slice A n C) ∧ (∃ A n C, c = .slice A n C) := by
  obtain ⟨vi, vc, vs, uc, us, e, hi, hc, hs⟩ := h.form
  unfold inV at e
  simp only [Value.agg.injEq, Array.mk.injEq, List.cons.injEq, and_true] at e
  obtain ⟨_, _, rfl, rfl, _, rfl⟩ := e
  obtain ⟨A0, C0, rfl, _, _⟩ := hi.form
  obtain ⟨A, C, rfl, _, _⟩ := hc.form
  obtain ⟨A2, C2, rfl, _, _⟩ := hs.form
  exact ⟨⟨_, _, _, rfl⟩, ⟨_, _, _, rfl⟩, ⟨_, _, _, rfl⟩⟩
/-- What the variable at ab holds: an instance. -/
structure Var (ab : Nat) (I : In) (A0 : Option Addr) (n0 C0 : Nat) (A1 : Option Addr) (n1 C1 : Nat) (A2 : Option Addr) (n2 C2 : Nat) (W : World) : Prop where
  mk ::
  box : IBlk ab 33 (.int .i64 I.kind) (.int .i64 I.cap) (.slice A0 n0 C0) (.slice A1 n1 C1) (.int .i64 I.size) (.slice A2 n2 C2) W
  ins : Ins (fun _ => True) (fun _ => True) W (.agg #[.int .i64 I.kind, .int .i64 I.cap, .slice A0 n0 C0, .slice A1 n1 C1, .int .i64 I.size, .slice A2 n2 C2]) I
/-- What stands all along. -/
structure GY (w W : World) : Prop where
  mk ::
  lib : LibOk W
  wrd : WordsOk W
  tab : TabOk W
  be : Below w.heap.size w W
section
variable {ab : Nat} {I : In} {A0 : Option Addr} {n0 C0 : Nat} {A1 : Option Addr} {n1 C1 : Nat} {A2 : Option Addr} {n2 C2 : Nat} {w W W' : World}
theorem Var.next (h : Var ab I A0 n0 C0 A1 n1 C1 A2 n2 C2 W) (hb : Below W.heap.size W W') : Var ab I A0 n0 C0 A1 n1 C1 A2 n2 C2 W' := ⟨h.box.next hb, h.ins.next hb⟩
theorem GY.next (h : GY w W) (hb : Below W.heap.size W W') : GY w W' := ⟨h.lib.below hb, h.wrd.next hb, h.tab.next hb, h.be.trans (hb.mono h.be.size)⟩
theorem var_new (h : Ins (fun _ => True) (fun _ => True) W (.agg #[.int .i64 I.kind, .int .i64 I.cap, .slice A0 n0 C0, .slice A1 n1 C1, .int .i64 I.size, .slice A2 n2 C2]) I) : Var W.heap.size I A0 n0 C0 A1 n1 C1 A2 n2 C2 (W.alloc (.cells #[.int .i64 I.kind, .int .i64 I.cap, .slice A0 n0 C0, .slice A1 n1 C1, .int .i64 I.size, .slice A2 n2 C2] 33)) :=
  ⟨iblk_new W _ _ _ _ _ _ _, h.next (new_below _ _)⟩
end
set_option maxHeartbeats 4000000 in
theorem walk (I : In) (x : Value) (w : World) (h1 : Ins (fun _ => True) (fun _ => True) w x I) (_b1 : I64 I.kind ∧ I64 I.cap ∧ I64 I.size) (hL : LibOk w) (hW : WordsOk w) (hT : TabOk w) :
    Calls Tryz.prog 5 #[x] w fun e w' => e = .returned (.bool true) ∧ Below w.heap.size w w' := by
  have TM := fun W h => tame_any I x W h
  unfold IsTame at TM
  obtain ⟨vi, vc, vs, uc, us, rfl, hi, hc, hs⟩ := h1.form
  obtain ⟨A0, C0, rfl, _, _⟩ := hi.form
  obtain ⟨A, C, rfl, _, _⟩ := hc.form
  obtain ⟨A2, C2, rfl, _, _⟩ := hs.form
  have G0 : GY w w := ⟨hL, hW, hT, Below.refl _ _⟩
  obtain ⟨w0, hw0⟩ : ∃ q, q = w.alloc (.cells #[.int .i64 I.kind, .int .i64 I.cap, .slice A0 I.items.length C0, .slice A I.cost.length C, .int .i64 I.size, .slice A2 I.sets.length C2] 26) := ⟨_, rfl⟩
  have nb0 : Below w.heap.size w w0 := by rw [hw0]; exact new_below w _
  have H1 := Lib.hid (h1.next nb0)
  have GA := Lib.hid (G0.next nb0)
  clear h1 hi hc hs hL hW hT _b1 G0 nb0
  go_enter Tryz.func5, Tryz.ntmps5
  go_wp2_with fail
  rw [← hw0]
  clear hw0
  with_reducible refine (TM _ H1.out).mono ?_
  rintro e w1 ⟨J, v, rfl, hJ, sm, hch, b1⟩
  have SM := Lib.hid sm
  have HCH := Lib.hid hch
  have GB := Lib.hid (GA.out.next b1)
  obtain ⟨ti, tc, ts, tuc, tus, rfl, hti, htc, hts⟩ := hJ.form
  obtain ⟨B0, D0, rfl, _, _⟩ := hti.form
  obtain ⟨B1, D1, rfl, _, _⟩ := htc.form
  obtain ⟨B2, D2, rfl, _, _⟩ := hts.form
  have IN := insts_any (fun _ => True) (fun _ => True) J _ _ hJ
  unfold IsInsts at IN
  rw [SM.out.cut_eq] at IN
  clear hti htc hts hJ sm hch b1 TM H1 GA
  go_wp2_with fail
  with_reducible refine IN.mono ?_
  rintro e w3 ⟨ai, ac, az, auc, aus, ci, cc, cs, rfl, mA, mC, b3⟩
  obtain ⟨⟨U1, l1, M1, rfl⟩, ⟨U2, l2, M2, rfl⟩, ⟨U3, l3, M3, rfl⟩⟩ := shape mA.ins
  obtain ⟨⟨U4, l4, M4, rfl⟩, ⟨U5, l5, M5, rfl⟩, ⟨U6, l6, M6, rfl⟩⟩ := shape mC
  have hA3 := mA.ins.imp (F' := fun _ => True) (G' := fun _ => True) (fun _ _ => trivial) (fun _ _ => trivial)
  unfold inV at hA3
  have vA := (var_new hA3).next (new_below _ (.cells #[.int .i64 J.kind, .int .i64 J.cap, .slice U4 l4 M4, .slice U5 l5 M5, .int .i64 J.size, .slice U6 l6 M6] 36))
  have GC := Lib.hid (((GB.out.next b3).next (new_below w3 (.cells #[.int .i64 J.kind, .int .i64 J.cap, .slice U1 l1 M1, .slice U2 l2 M2, .int .i64 J.size, .slice U3 l3 M3] 33))).next (new_below _ (.cells #[.int .i64 J.kind, .int .i64 J.cap, .slice U4 l4 M4, .slice U5 l5 M5, .int .i64 J.size, .slice U6 l6 M6] 36)))
  obtain ⟨w4, hw4⟩ : ∃ q, q = (w3.alloc (.cells #[.int .i64 J.kind, .int .i64 J.cap, .slice U1 l1 M1, .slice U2 l2 M2, .int .i64 J.size, .slice U3 l3 M3] 33)).alloc (.cells #[.int .i64 J.kind, .int .i64 J.cap, .slice U4 l4 M4, .slice U5 l5 M5, .int .i64 J.size, .slice U6 l6 M6] 36) := ⟨_, rfl⟩
  rw [← hw4] at vA GC
  have PR := print_any _ _ J _ w4 vA.ins GC.out.wrd GC.out.tab
  rw [prE_small SM.out, prT_good HCH.out SM.out, HCH.out] at PR
  have VA := Lib.hid vA
  obtain ⟨c0, c1, c2, c3, c4, c5⟩ := vA.box.box
  clear mA mC b3 IN GB hA3 vA
  unfold inV
  go_wp2_with fail
  rw [← hw4]
  clear hw4
  with_reducible refine PR.mono ?_
  rintro e w5 ⟨rfl, b5⟩
  have GD := Lib.hid (GC.out.next b5)
  have VB := Lib.hid (VA.out.next b5)
  have PA := parse_any ⟨(instT J).toArray⟩ w5 GD.out.lib GD.out.wrd
  have TD := fun W a b c => tidy_any ⟨(instT J).toArray⟩ W a b c
  have et : (⟨(instT J).toArray⟩ : ByteArray).data.toList = instT J := rfl
  have td := tidy_show HCH.out (small_text HCH.out SM.out)
  rw [et, td.1, td.2] at TD
  rw [et, parse_show HCH.out (small_text HCH.out SM.out)] at PA
  unfold IsPs at PA
  generalize instT J = tx at *
  have hee : In.eqI J J = true := In.eqI_self _
  have HEE := Lib.hid hee
  clear PR b5 GC VA et td c0 c1 c2 c3 c4 c5 hee SM HCH
  go_wp2_with fail
  with_reducible refine PA.mono ?_
  rintro e w6 ⟨v, rfl, hI, b6⟩
  obtain ⟨P0, m0, K0, P1, m1, K1, P2, m2, K2, rfl⟩ := InV hI
  have vB := (var_new (hI.imp (F' := fun _ => True) (G' := fun _ => True) (fun _ _ => trivial) (fun _ _ => trivial))).next (new_below _ (.cells #[.int .i64 0, .int .i64 0] 52))
  have nb7 : Below w6.heap.size w6 ((w6.alloc (.cells #[.int .i64 J.kind, .int .i64 J.cap, .slice P0 m0 K0, .slice P1 m1 K1, .int .i64 J.size, .slice P2 m2 K2] 33)).alloc (.cells #[.int .i64 0, .int .i64 0] 52)) := (new_below w6 (.cells #[.int .i64 J.kind, .int .i64 J.cap, .slice P0 m0 K0, .slice P1 m1 K1, .int .i64 J.size, .slice P2 m2 K2] 33)).alloc (by simp) _
  have GE := Lib.hid ((GD.out.next b6).next nb7)
  have VA := Lib.hid ((VB.out.next b6).next nb7)
  have VC := Lib.hid vB
  clear PA b6 hI vB nb7 GD VB
  go_wp2_with fail
  with_reducible refine (TD _ GE.out.lib GE.out.wrd GE.out.tab).mono ?_
  rintro e w8 ⟨rfl, b8⟩
  have G8 := Lib.hid (GE.out.next b8)
  have VA8 := Lib.hid (VA.out.next b8)
  have VC8 := Lib.hid (VC.out.next b8)
  clear b8 GE VA VC TD
  go_wp2_with fail
  with_reducible refine (wakes_any _ G8.out.lib G8.out.wrd G8.out.tab).mono ?_
  rintro e w9 ⟨rfl, b9⟩
  have G9 := Lib.hid (G8.out.next b9)
  have VA9 := Lib.hid (VA8.out.next b9)
  have VC9 := Lib.hid (VC8.out.next b9)
  clear b9 G8 VA8 VC8
  obtain ⟨a0, a1, a2, a3, a4, a5⟩ := VA9.out.box.box
  obtain ⟨d0, d1, d2, d3, d4, d5⟩ := VC9.out.box.box
  go_wp2_with fail
  with_reducible refine (equal_any _ _ _ _ _ _ _ _ _ VA9.out.ins VC9.out.ins).mono ?_
  rintro e w10 ⟨rfl, b10⟩
  rw [HEE.out]
  have GF := Lib.hid (G9.out.next b10)
  clear b10 G9 VA9 VC9 a0 a1 a2 a3 a4 a5 d0 d1 d2 d3 d4 d5
  go_wp2
  go_ret
  exact ⟨rfl, GF.out.be⟩

/-! ### the row -/
open Go.ChangeShapes Go.WideShapes Go.ChangeAt
theorem lifted (os : Os) (started : os.Started) (H : Type) (enc : TypeId × Value → H) :
    ReturnsInHanded {} Tryz.checked os 5 .any (fun w args => (Rows.showBackSpec.pre enc Tryz.prog Tryz.f5 [] false w args ∧ laidMetH Tryz.prog laidL w) ∧ sizedMet enc Tryz.prog Tryz.f5 (OpenSpec.ofChange Rows.showBackSpec) false w args)
      (Rows.showBackSpec.post enc Tryz.prog Tryz.f5 false true false false) := by
  refine returnsInHanded_of_change_and (C := Tryz.checked) (X := fun w _ => laidMetH Tryz.prog laidL w) (fun _ _ _ hh h => h.of_heap hh) own started (by kernel_rfl) Tryz.func5
    (ChangeSpec.witness_shaped (enc := enc) (C := Tryz.checked) (os := os) (X := fun w _ => laidMetH Tryz.prog laidL w) false (World.laidAll Tryz.prog os laidL) #[.agg #[.int .i64 0, .int .i64 0, .slice none 0 0, .slice none 0 0, .int .i64 0, .slice none 0 0]] 8 (World.laidAll_os _ _ _) (start_shaped os) (by kernel_rfl) (by kernel_rfl) (by kernel_rfl) (start_met os _)) ?_
  intro W base args ds gs before hval0 hW _ hsz0 hL _
  have hval : ∀ (j : Nat) t v, Tryz.f5.params[j]? = some t → args[j]? = some v → Value.okWide Tryz.prog W .any base t v := hval0
  have hW' := hW
  obtain ⟨p, q, hA0, hV, rfl, hfz, hnd⟩ := hW
  have hA : DataW.TrodAll enc Tryz.prog W 0 (fun _ => true) true Tryz.f5.params.toList args.toList ds p := hA0
  rw [Tryz.params5] at hA hval
  obtain ⟨v0, vs0, d0, ds0, p0, q0, hargs, rfl, rfl, h0, r0⟩ := trodAll_cons hA
  obtain ⟨rfl, rfl, rfl⟩ := trodAll_nil r0
  obtain rfl : args = #[v0] := by cases args; simp_all
  obtain ⟨rfl, rfl⟩ := trodVars_none hV
  have k0 := h0
  have lt0 : ∀ x ∈ p0, x.block < W.heap.size := by obtain ⟨m, hm⟩ := k0; exact DataW.trod_lt m _ _ _ hm
  obtain ⟨I0, w0, b0⟩ := open_inst (hval 0 26 v0 rfl rfl) h0
  clear hA0 hval0
  refine (walk I0 v0 W w0 b0 (libOk_of_laid hL) (words_of_laid hL) (tab_of_laid hL)).mono fun e W' ⟨he, bel⟩ => ?_
  subst he
  exact ⟨_, rfl, _, _, _, [], _, [], hW', trodAll_mk1 (shut_bool Tryz.underlying4 _), (trodAll_cons_mk (Below.trod laidOut (by kernel_rfl) (of_decide_eq_true (by kernel_rfl)) k0 bel lt0) trodAll_mk0), rfl, bel.frame _, fun h => by cases h⟩

theorem over : Rows.showBackRow.holds Tryz.pinned (OpenSpec.ofChange Rows.showBackSpec) :=
  OpenClaim.holds_of_wide 5 Tryz.f5 rfl rfl rfl rfl rfl rfl rfl ⟨rfl, rfl, rfl, rfl, rfl⟩ rfl rfl rfl rfl rfl (by kernel_rfl) Tryz.func5 (by kernel_rfl)
    (of_decide_eq_true (by kernel_rfl)) (by unfold Func.isWrapper; first | (rw [if_pos (by decide +kernel)]; kernel_rfl) | (rw [if_neg (by decide +kernel)]; exact ⟨rfl, rfl⟩))
    (fun os started H enc _ => lifted os started H enc)

theorem card : Rows.ShowBackCardSaid :=
  Claim7.holds_tied_plain_at .later [] [.data, .data, .data, .data, .data, .sentinel, .sentinel, .pinned] true _ true
    over (fun _ h => by cases h) (by kernel_rfl) (fun _ h => by cases h) showBack_row_tie rfl ⟨rfl, rfl⟩ (by kernel_rfl) rfl
    (fun f fn hf hfn => by
      obtain rfl : f = 5 := Option.some.inj ((show Tryz.prog.funcNamed Rows.showBackRow.func = some 5 by kernel_rfl).symm.trans hf) |>.symm
      obtain rfl : fn = Tryz.f5 := (Option.some.inj (Tryz.func5.symm.trans hfn)).symm
      exact ⟨by kernel_rfl, fun j t ht => by
        rw [Tryz.params5] at ht
        have hm : t ∈ [26] := by simpa using Array.mem_of_getElem? ht
        have hall : ([26].all fun u => !Tryz.prog.wantsStandIn u) = true := by kernel_rfl
        exact (show Tryz.prog.wantsStandIn t = false by simpa using List.all_eq_true.1 hall t hm)⟩)
    (by kernel_rfl)

end Go.Proofs.YtbadingdklenhaaGreatDoor.showBack
namespace Go.Proofs.YtbadingdklenhaaGreatDoor
theorem showBack_holds : Rows.ShowBackCardSaid := showBack.card
#print axioms showBack_holds
end Go.Proofs.YtbadingdklenhaaGreatDoor
