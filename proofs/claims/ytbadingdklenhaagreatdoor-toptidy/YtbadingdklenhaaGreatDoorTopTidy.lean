/-
  TopTidy: of two instances that come in, each made to be one that may be, of few decisions: what is printed of the first one is the document's text; the two texts are the same just if the document says that the two are the same; and what is parsed of the two texts is the same just if the texts are. For every two instances, wherever they lie; under the row's own condition on the listed variables of Go's library and of the project.
-/
import Derived.Test.YtbadingdklenhaaGreatDoorTopTameK8M
import Derived.Test.YtbadingdklenhaaGreatDoorTopFrame
import Derived.Test.YtbadingdklenhaaGreatDoorInstEqB
import Derived.Test.YtbadingdklenhaaGreatDoorInstRefEq
import Derived.Test.YtbadingdklenhaaGreatDoorShowDigitsM
import Derived.SevenTiedAt
namespace Go.Proofs.YtbadingdklenhaaGreatDoor.topTidy
set_option maxRecDepth 100000
open Go.RowKit Go.Proofs.YtbadingdklenhaaGreatDoor

theorem shape {F G : Nat → Prop} {w : World} {I J : In} {a b c : Value} (h : Ins F G w (inV I a b c) J) : (∃ A n C, a = .slice A n C) ∧ (∃ A n C, b = .slice A n C) ∧ (∃ A n C, c = .slice A n C) := by
  obtain ⟨vi, vc, vs, uc, us, e, hi, hc, hs⟩ := h.form
  unfold inV at e
  simp only [Value.agg.injEq, Array.mk.injEq, List.cons.injEq, and_true] at e
  obtain ⟨_, _, rfl, rfl, _, rfl⟩ := e
  obtain ⟨A0, C0, rfl, _, _⟩ := hi.form
  obtain ⟨A, C, rfl, _, _⟩ := hc.form
  obtain ⟨A2, C2, rfl, _, _⟩ := hs.form
  exact ⟨⟨_, _, _, rfl⟩, ⟨_, _, _, rfl⟩, ⟨_, _, _, rfl⟩⟩
/-- What the variable at ab, of type T, holds: an instance. -/
structure Var (T : TypeId) (ab : Nat) (I : In) (A0 : Option Addr) (n0 C0 : Nat) (A1 : Option Addr) (n1 C1 : Nat) (A2 : Option Addr) (n2 C2 : Nat) (W : World) : Prop where
  mk ::
  box : IBlk ab T (.int .i64 I.kind) (.int .i64 I.cap) (.slice A0 n0 C0) (.slice A1 n1 C1) (.int .i64 I.size) (.slice A2 n2 C2) W
  ins : Ins (fun _ => True) (fun _ => True) W (.agg #[.int .i64 I.kind, .int .i64 I.cap, .slice A0 n0 C0, .slice A1 n1 C1, .int .i64 I.size, .slice A2 n2 C2]) I
/-- What stands all along. -/
structure GY (w W : World) : Prop where
  mk ::
  lib : LibOk W
  wrd : WordsOk W
  tab : TabOk W
  be : Below w.heap.size w W
section
variable {T : TypeId} {ab : Nat} {I : In} {A0 : Option Addr} {n0 C0 : Nat} {A1 : Option Addr} {n1 C1 : Nat} {A2 : Option Addr} {n2 C2 : Nat} {w W W' : World}
theorem Var.next (h : Var T ab I A0 n0 C0 A1 n1 C1 A2 n2 C2 W) (hb : Below W.heap.size W W') : Var T ab I A0 n0 C0 A1 n1 C1 A2 n2 C2 W' := ⟨h.box.next hb, h.ins.next hb⟩
theorem GY.next (h : GY w W) (hb : Below W.heap.size W W') : GY w W' := ⟨h.lib.below hb, h.wrd.next hb, h.tab.next hb, h.be.trans (hb.mono h.be.size)⟩
theorem var_new (T : TypeId) (h : Ins (fun _ => True) (fun _ => True) W (.agg #[.int .i64 I.kind, .int .i64 I.cap, .slice A0 n0 C0, .slice A1 n1 C1, .int .i64 I.size, .slice A2 n2 C2]) I) : Var T W.heap.size I A0 n0 C0 A1 n1 C1 A2 n2 C2 (W.alloc (.cells #[.int .i64 I.kind, .int .i64 I.cap, .slice A0 n0 C0, .slice A1 n1 C1, .int .i64 I.size, .slice A2 n2 C2] T)) :=
  ⟨iblk_new W _ _ _ _ _ _ _, h.next (new_below _ _)⟩
end
theorem two {J K : In} (h1 : J.chk = 0) (h2 : K.chk = 0) (s1 : J.Small) (s2 : K.Small) : (instT J = instT K ∧ In.eqI J K = true) ∨ ((⟨(instT J).toArray⟩ : ByteArray) ≠ ⟨(instT K).toArray⟩ ∧ instT J ≠ instT K ∧ In.eqI J K = false) := by
  by_cases h : J = K
  · subst h
    exact .inl ⟨rfl, In.eqI_self _⟩
  · have hn : instT J ≠ instT K := fun e => h ((text_inj h1 h2 s1 s2).1 e)
    refine .inr ⟨fun e => hn ?_, hn, ?_⟩
    · have := congrArg (fun b : ByteArray => b.data.toList) e
      simpa using this
    · cases he : In.eqI J K with
      | false => rfl
      | true =>
        refine absurd ?_ h
        unfold In.eqI at he
        simp only [Bool.and_eq_true, decide_eq_true_eq] at he
        obtain ⟨⟨⟨⟨⟨e1, e2⟩, e3⟩, e4⟩, e5⟩, e6⟩ := he
        cases J; cases K
        simp only at e1 e2 e3 e4 e5 e6
        subst e1 e2 e3 e4 e5 e6
        rfl
set_option maxHeartbeats 8000000 in
theorem walk (I : In) (x : Value) (K : In) (y : Value) (w : World) (h1 : Ins (fun _ => True) (fun _ => True) w x I) (_b1 : I64 I.kind ∧ I64 I.cap ∧ I64 I.size) (h2 : Ins (fun _ => True) (fun _ => True) w y K) (_b2 : I64 K.kind ∧ I64 K.cap ∧ I64 K.size) (hL : LibOk w) (hW : WordsOk w) (hT : TabOk w) :
    Calls Tryz.prog 6 #[x, y] w fun e w' => e = .returned (.bool true) ∧ Below w.heap.size w w' := by
  have TMx := fun W h => tame_any I x W h
  have TMy := fun W h => tame_any K y W h
  unfold IsTame at TMx TMy
  obtain ⟨vi, vc, vs, uc, us, rfl, hi, hc, hs⟩ := h1.form
  obtain ⟨A0, C0, rfl, _, _⟩ := hi.form
  obtain ⟨A1, C1, rfl, _, _⟩ := hc.form
  obtain ⟨A2, C2, rfl, _, _⟩ := hs.form
  obtain ⟨yi, yc, ys, zc, zs, rfl, ki, kc, ks⟩ := h2.form
  obtain ⟨E0, D0, rfl, _, _⟩ := ki.form
  obtain ⟨E1, D1, rfl, _, _⟩ := kc.form
  obtain ⟨E2, D2, rfl, _, _⟩ := ks.form
  have G0 : GY w w := ⟨hL, hW, hT, Below.refl _ _⟩
  have nbx := new_below w (.cells #[.int .i64 I.kind, .int .i64 I.cap, .slice A0 I.items.length C0, .slice A1 I.cost.length C1, .int .i64 I.size, .slice A2 I.sets.length C2] 58)
  have nby := new_below (w.alloc (.cells #[.int .i64 I.kind, .int .i64 I.cap, .slice A0 I.items.length C0, .slice A1 I.cost.length C1, .int .i64 I.size, .slice A2 I.sets.length C2] 58)) (.cells #[.int .i64 K.kind, .int .i64 K.cap, .slice E0 K.items.length D0, .slice E1 K.cost.length D1, .int .i64 K.size, .slice E2 K.sets.length D2] 58)
  have vX := (var_new 58 h1).next nby
  have vY := var_new 58 (h2.next nbx)
  have G1 := (G0.next nbx).next nby
  obtain ⟨w0, hw0⟩ : ∃ q, q = (w.alloc (.cells #[.int .i64 I.kind, .int .i64 I.cap, .slice A0 I.items.length C0, .slice A1 I.cost.length C1, .int .i64 I.size, .slice A2 I.sets.length C2] 58)).alloc (.cells #[.int .i64 K.kind, .int .i64 K.cap, .slice E0 K.items.length D0, .slice E1 K.cost.length D1, .int .i64 K.size, .slice E2 K.sets.length D2] 58) := ⟨_, rfl⟩
  rw [World.size_alloc] at vY
  rw [← hw0] at vX vY G1
  have GA := Lib.hid G1
  have VX := Lib.hid vX
  have VY := Lib.hid vY
  obtain ⟨c0, c1, c2, c3, c4, c5⟩ := vX.box.box
  have hxl := vX.box.lt
  clear h1 hi hc hs h2 ki kc ks hL hW hT _b1 _b2 G0 nbx nby G1 vX vY
  go_enter Tryz.func6, Tryz.ntmps6
  go_wp2_with fail
  rw [← hw0]
  clear hw0
  with_reducible refine (TMx _ VX.out.ins).mono ?_
  rintro e w1 ⟨J1, v, rfl, hJ, sm, hch, b1⟩
  have SM1 := Lib.hid sm
  have HCH1 := Lib.hid hch
  have GB := Lib.hid (GA.out.next b1)
  replace VY := Lib.hid (VY.out.next b1)
  obtain ⟨ti, tc, ts, tuc, tus, rfl, hti, htc, hts⟩ := hJ.form
  obtain ⟨B0, D0', rfl, _, _⟩ := hti.form
  obtain ⟨B1, D1', rfl, _, _⟩ := htc.form
  obtain ⟨B2, D2', rfl, _, _⟩ := hts.form
  have IN := insts_any (fun _ => True) (fun _ => True) J1 _ _ hJ
  unfold IsInsts at IN
  rw [SM1.out.cut_eq] at IN
  clear hti htc hts hJ sm hch b1 TMx GA c0 c1 c2 c3 c4 c5 hxl
  go_wp2_with fail
  with_reducible refine IN.mono ?_
  rintro e w2 ⟨ai, ac, az, auc, aus, ci, cc, cs, rfl, mA, mC, b3⟩
  obtain ⟨⟨U11, l11, M11, rfl⟩, ⟨U21, l21, M21, rfl⟩, ⟨U31, l31, M31, rfl⟩⟩ := shape mA.ins
  obtain ⟨⟨U41, l41, M41, rfl⟩, ⟨U51, l51, M51, rfl⟩, ⟨U61, l61, M61, rfl⟩⟩ := shape mC
  have cy := (VY.out.next b3).box
  obtain ⟨c0, c1, c2, c3, c4, c5⟩ := cy.box
  have hyl := cy.lt
  have hyl2 := Nat.lt_add_right 1 hyl
  clear cy
  have hA3 := mA.ins.imp (F' := fun _ => True) (G' := fun _ => True) (fun _ _ => trivial) (fun _ _ => trivial)
  have hC3 := mC.imp (F' := fun _ => True) (G' := fun _ => True) (fun _ _ => trivial) (fun _ _ => trivial)
  unfold inV at hA3 hC3
  have nb1 := new_below w2 (.cells #[.int .i64 J1.kind, .int .i64 J1.cap, .slice U11 l11 M11, .slice U21 l21 M21, .int .i64 J1.size, .slice U31 l31 M31] 33)
  have nb2 := new_below (w2.alloc (.cells #[.int .i64 J1.kind, .int .i64 J1.cap, .slice U11 l11 M11, .slice U21 l21 M21, .int .i64 J1.size, .slice U31 l31 M31] 33)) (.cells #[.int .i64 J1.kind, .int .i64 J1.cap, .slice U41 l41 M41, .slice U51 l51 M51, .int .i64 J1.size, .slice U61 l61 M61] 36)
  have vA := (var_new 33 hA3).next nb2
  have vD := var_new 36 (hC3.next nb1)
  rw [World.size_alloc] at vD
  obtain ⟨w3, hwc⟩ : ∃ q, q = (w2.alloc (.cells #[.int .i64 J1.kind, .int .i64 J1.cap, .slice U11 l11 M11, .slice U21 l21 M21, .int .i64 J1.size, .slice U31 l31 M31] 33)).alloc (.cells #[.int .i64 J1.kind, .int .i64 J1.cap, .slice U41 l41 M41, .slice U51 l51 M51, .int .i64 J1.size, .slice U61 l61 M61] 36) := ⟨_, rfl⟩
  have gc := ((GB.out.next b3).next nb1).next nb2
  have qVY := ((VY.out.next b3).next nb1).next nb2
  rw [← hwc] at vA vD gc qVY
  have GC := Lib.hid gc
  have VA1 := Lib.hid vA
  have VD1 := Lib.hid vD
  have VY := Lib.hid qVY
  clear VX mA mC b3 IN GB hA3 hC3 nb1 nb2 vA vD gc qVY
  unfold inV
  go_wp2_with fail
  rw [← hwc]
  clear hwc
  with_reducible refine (TMy _ VY.out.ins).mono ?_
  rintro e w4 ⟨J2, v, rfl, hJ, sm, hch, b1⟩
  have SM2 := Lib.hid sm
  have HCH2 := Lib.hid hch
  have GB := Lib.hid (GC.out.next b1)
  replace VA1 := Lib.hid (VA1.out.next b1)
  replace VD1 := Lib.hid (VD1.out.next b1)
  obtain ⟨ti, tc, ts, tuc, tus, rfl, hti, htc, hts⟩ := hJ.form
  obtain ⟨B0, D0', rfl, _, _⟩ := hti.form
  obtain ⟨B1, D1', rfl, _, _⟩ := htc.form
  obtain ⟨B2, D2', rfl, _, _⟩ := hts.form
  have IN := insts_any (fun _ => True) (fun _ => True) J2 _ _ hJ
  unfold IsInsts at IN
  rw [SM2.out.cut_eq] at IN
  clear hti htc hts hJ sm hch b1 TMy GC c0 c1 c2 c3 c4 c5 hyl hyl2
  go_wp2_with fail
  with_reducible refine IN.mono ?_
  rintro e w5 ⟨ai, ac, az, auc, aus, ci, cc, cs, rfl, mA, mC, b3⟩
  obtain ⟨⟨U12, l12, M12, rfl⟩, ⟨U22, l22, M22, rfl⟩, ⟨U32, l32, M32, rfl⟩⟩ := shape mA.ins
  obtain ⟨⟨U42, l42, M42, rfl⟩, ⟨U52, l52, M52, rfl⟩, ⟨U62, l62, M62, rfl⟩⟩ := shape mC
  have cy := (VA1.out.next b3).box
  obtain ⟨c0, c1, c2, c3, c4, c5⟩ := cy.box
  have hyl := cy.lt
  have hyl2 := Nat.lt_add_right 1 hyl
  clear cy
  have hA3 := mA.ins.imp (F' := fun _ => True) (G' := fun _ => True) (fun _ _ => trivial) (fun _ _ => trivial)
  have hC3 := mC.imp (F' := fun _ => True) (G' := fun _ => True) (fun _ _ => trivial) (fun _ _ => trivial)
  unfold inV at hA3 hC3
  have nb1 := new_below w5 (.cells #[.int .i64 J2.kind, .int .i64 J2.cap, .slice U12 l12 M12, .slice U22 l22 M22, .int .i64 J2.size, .slice U32 l32 M32] 33)
  have nb2 := new_below (w5.alloc (.cells #[.int .i64 J2.kind, .int .i64 J2.cap, .slice U12 l12 M12, .slice U22 l22 M22, .int .i64 J2.size, .slice U32 l32 M32] 33)) (.cells #[.int .i64 J2.kind, .int .i64 J2.cap, .slice U42 l42 M42, .slice U52 l52 M52, .int .i64 J2.size, .slice U62 l62 M62] 36)
  have vA := (var_new 33 hA3).next nb2
  have vD := var_new 36 (hC3.next nb1)
  rw [World.size_alloc] at vD
  obtain ⟨w6, hwc⟩ : ∃ q, q = (w5.alloc (.cells #[.int .i64 J2.kind, .int .i64 J2.cap, .slice U12 l12 M12, .slice U22 l22 M22, .int .i64 J2.size, .slice U32 l32 M32] 33)).alloc (.cells #[.int .i64 J2.kind, .int .i64 J2.cap, .slice U42 l42 M42, .slice U52 l52 M52, .int .i64 J2.size, .slice U62 l62 M62] 36) := ⟨_, rfl⟩
  have gc := ((GB.out.next b3).next nb1).next nb2
  have qVA1 := ((VA1.out.next b3).next nb1).next nb2
  have qVD1 := ((VD1.out.next b3).next nb1).next nb2
  rw [← hwc] at vA vD gc qVA1 qVD1
  have GD := Lib.hid gc
  have VA2 := Lib.hid vA
  have VD2 := Lib.hid vD
  have VA1 := Lib.hid qVA1
  have VD1 := Lib.hid qVD1
  have PR1 := print_any _ _ J1 _ w6 qVA1.ins gc.wrd gc.tab
  rw [prE_small SM1.out, prT_good HCH1.out SM1.out, HCH1.out] at PR1
  have PR2 := fun v W h a b => print_any (fun _ => True) (fun _ => True) J2 v W h a b
  have RP := fun v W h => rprint_any (fun _ => True) (fun _ => True) J1 v W h
  simp only [prE_small SM1.out, prT_good HCH1.out SM1.out, HCH1.out] at RP
  simp only [prE_small SM2.out, prT_good HCH2.out SM2.out, HCH2.out] at PR2
  have PA1 := fun W a b => parse_any ⟨(instT J1).toArray⟩ W a b
  have PA2 := fun W a b => parse_any ⟨(instT J2).toArray⟩ W a b
  have et1 : (⟨(instT J1).toArray⟩ : ByteArray).data.toList = instT J1 := rfl
  have et2 : (⟨(instT J2).toArray⟩ : ByteArray).data.toList = instT J2 := rfl
  rw [et1, parse_show HCH1.out (small_text HCH1.out SM1.out)] at PA1
  rw [et2, parse_show HCH2.out (small_text HCH2.out SM2.out)] at PA2
  unfold IsPs at PA1 PA2
  have TW := Lib.hid (two HCH1.out HCH2.out SM1.out SM2.out)
  have RQ := fun u v W h g => requal_any (fun _ => True) (fun _ => True) (fun _ => True) (fun _ => True) J1 J2 u v W h g
  have EQ := fun u v W h g => equal_any (fun _ => True) (fun _ => True) (fun _ => True) (fun _ => True) J1 J2 u v W h g
  generalize In.eqI J1 J2 = EB at *
  clear VY mA mC b3 IN GB hA3 hC3 nb1 nb2 vA vD gc qVA1 qVD1 et1 et2 SM1 SM2 HCH1 HCH2
  unfold inV
  go_wp2_with fail
  rw [← hwc]
  clear hwc
  with_reducible refine PR1.mono ?_
  rintro e w7 ⟨rfl, b7⟩
  have G7 := Lib.hid (GD.out.next b7)
  have A1 := Lib.hid (VA1.out.next b7)
  have D1 := Lib.hid (VD1.out.next b7)
  have A2 := Lib.hid (VA2.out.next b7)
  have D2 := Lib.hid (VD2.out.next b7)
  obtain ⟨d0, d1, d2, d3, d4, d5⟩ := A2.out.box.box
  have hal := A2.out.box.lt
  clear b7 PR1 GD VA1 VD1 VA2 VD2 c0 c1 c2 c3 c4 c5
  go_wp2_with fail
  with_reducible refine (PR2 _ _ A2.out.ins G7.out.wrd G7.out.tab).mono ?_
  rintro e w8 ⟨rfl, b8⟩
  have G8 := Lib.hid (G7.out.next b8)
  replace A1 := Lib.hid (A1.out.next b8)
  replace D1 := Lib.hid (D1.out.next b8)
  replace A2 := Lib.hid (A2.out.next b8)
  replace D2 := Lib.hid (D2.out.next b8)
  obtain ⟨c0, c1, c2, c3, c4, c5⟩ := D1.out.box.box
  have hdl := D1.out.box.lt
  clear b8 PR2 G7 d0 d1 d2 d3 d4 d5 hal
  go_wp2_with fail
  with_reducible refine (RP _ _ D1.out.ins).mono ?_
  rintro e w9 ⟨rfl, b9⟩
  have G9 := Lib.hid (G8.out.next b9)
  replace D1 := Lib.hid (D1.out.next b9)
  replace D2 := Lib.hid (D2.out.next b9)
  clear b9 RP G8 A1 A2 c0 c1 c2 c3 c4 c5 hdl
  go_wp2_with fail
  with_reducible refine (wakes_any _ G9.out.lib G9.out.wrd G9.out.tab).mono ?_
  rintro e w10 ⟨rfl, b10⟩
  have G10 := Lib.hid (G9.out.next b10)
  replace D1 := Lib.hid (D1.out.next b10)
  replace D2 := Lib.hid (D2.out.next b10)
  obtain ⟨c0, c1, c2, c3, c4, c5⟩ := D1.out.box.box
  have hdl := D1.out.box.lt
  obtain ⟨d0, d1, d2, d3, d4, d5⟩ := D2.out.box.box
  have hel := D2.out.box.lt
  clear b10 G9
  rcases TW.out with ⟨t1, t2⟩ | ⟨t1, t2, t3⟩
  · clear TW
    subst t2
    rw [← t1] at PA2 ⊢
    generalize instT J1 = tx at *
    clear t1
    go_wp2_with fail
    with_reducible refine (RQ _ _ _ D1.out.ins D2.out.ins).mono ?_
    rintro e w11 ⟨rfl, b11⟩
    have G11 := Lib.hid (G10.out.next b11)
    clear b11 G10 c0 c1 c2 c3 c4 c5 d0 d1 d2 d3 d4 d5 D1 D2 RQ hdl hel
    go_wp2_with fail
    with_reducible refine (PA1 _ G11.out.lib G11.out.wrd).mono ?_
    rintro e w12 ⟨v, rfl, hI, b12⟩
    obtain ⟨P0, m0, K0, P1, m1, K1, P2, m2, K2, rfl⟩ := InV hI
    have nbp := new_below w12 (.cells #[.int .i64 J1.kind, .int .i64 J1.cap, .slice P0 m0 K0, .slice P1 m1 K1, .int .i64 J1.size, .slice P2 m2 K2] 33)
    have nbq := new_below (w12.alloc (.cells #[.int .i64 J1.kind, .int .i64 J1.cap, .slice P0 m0 K0, .slice P1 m1 K1, .int .i64 J1.size, .slice P2 m2 K2] 33)) (.cells #[.int .i64 0, .int .i64 0] 52)
    have G12 := Lib.hid (((G11.out.next b12).next nbp).next nbq)
    have A1 := Lib.hid ((var_new 33 (hI.imp (F' := fun _ => True) (G' := fun _ => True) (fun _ _ => trivial) (fun _ _ => trivial))).next nbq)
    clear PA1 G11 b12 nbp nbq hI
    go_wp2_with fail
    with_reducible refine (PA2 _ G12.out.lib G12.out.wrd).mono ?_
    rintro e w13 ⟨v, rfl, hI, b13⟩
    obtain ⟨Q0, o0, N0, Q1, o1, N1, Q2, o2, N2, rfl⟩ := InV hI
    have nbp := new_below w13 (.cells #[.int .i64 J2.kind, .int .i64 J2.cap, .slice Q0 o0 N0, .slice Q1 o1 N1, .int .i64 J2.size, .slice Q2 o2 N2] 33)
    have nbq := new_below (w13.alloc (.cells #[.int .i64 J2.kind, .int .i64 J2.cap, .slice Q0 o0 N0, .slice Q1 o1 N1, .int .i64 J2.size, .slice Q2 o2 N2] 33)) (.cells #[.int .i64 0, .int .i64 0] 52)
    have g13 := ((G12.out.next b13).next nbp).next nbq
    have a2 := (var_new 33 (hI.imp (F' := fun _ => True) (G' := fun _ => True) (fun _ _ => trivial) (fun _ _ => trivial))).next nbq
    have a13 := Lib.hid (A1.out.next b13)
    have a1 := (a13.out.next nbp).next nbq
    obtain ⟨w14, hw14⟩ : ∃ q, q = (w13.alloc (.cells #[.int .i64 J2.kind, .int .i64 J2.cap, .slice Q0 o0 N0, .slice Q1 o1 N1, .int .i64 J2.size, .slice Q2 o2 N2] 33)).alloc (.cells #[.int .i64 0, .int .i64 0] 52) := ⟨_, rfl⟩
    rw [← hw14] at g13 a1 a2
    have G14 := Lib.hid g13
    have A2 := Lib.hid a2
    have A1 := Lib.hid a1
    have cy := (a13.out).box
    obtain ⟨c0, c1, c2, c3, c4, c5⟩ := cy.box
    have hdl := cy.lt
    have hdl2 := Nat.lt_add_right 1 hdl
    clear PA2 G12 b13 nbp nbq hI g13 a1 a2 cy a13
    go_wp2_with fail
    rw [← hw14]
    clear hw14
    with_reducible refine (EQ _ _ _ A1.out.ins A2.out.ins).mono ?_
    rintro e w15 ⟨rfl, b15⟩
    have G15 := Lib.hid (G14.out.next b15)
    clear b15 G14 c0 c1 c2 c3 c4 c5 A1 A2 EQ hdl hdl2
    go_wp2
    go_ret
    exact ⟨rfl, G15.out.be⟩
  · clear TW
    subst t3
    have tE : ((⟨(instT J1).toArray⟩ : ByteArray).toList == (⟨(instT J2).toArray⟩ : ByteArray).toList) = false := ba_ne t1
    generalize (⟨(instT J1).toArray⟩ : ByteArray) = tx at *
    generalize (⟨(instT J2).toArray⟩ : ByteArray) = ty at *
    go_wp2_with fail
    with_reducible refine (RQ _ _ _ D1.out.ins D2.out.ins).mono ?_
    rintro e w11 ⟨rfl, b11⟩
    have G11 := Lib.hid (G10.out.next b11)
    clear b11 G10 c0 c1 c2 c3 c4 c5 d0 d1 d2 d3 d4 d5 D1 D2 RQ hdl hel
    go_wp2_with fail
    with_reducible refine (PA1 _ G11.out.lib G11.out.wrd).mono ?_
    rintro e w12 ⟨v, rfl, hI, b12⟩
    obtain ⟨P0, m0, K0, P1, m1, K1, P2, m2, K2, rfl⟩ := InV hI
    have nbp := new_below w12 (.cells #[.int .i64 J1.kind, .int .i64 J1.cap, .slice P0 m0 K0, .slice P1 m1 K1, .int .i64 J1.size, .slice P2 m2 K2] 33)
    have nbq := new_below (w12.alloc (.cells #[.int .i64 J1.kind, .int .i64 J1.cap, .slice P0 m0 K0, .slice P1 m1 K1, .int .i64 J1.size, .slice P2 m2 K2] 33)) (.cells #[.int .i64 0, .int .i64 0] 52)
    have G12 := Lib.hid (((G11.out.next b12).next nbp).next nbq)
    have A1 := Lib.hid ((var_new 33 (hI.imp (F' := fun _ => True) (G' := fun _ => True) (fun _ _ => trivial) (fun _ _ => trivial))).next nbq)
    clear PA1 G11 b12 nbp nbq hI
    go_wp2_with fail
    with_reducible refine (PA2 _ G12.out.lib G12.out.wrd).mono ?_
    rintro e w13 ⟨v, rfl, hI, b13⟩
    obtain ⟨Q0, o0, N0, Q1, o1, N1, Q2, o2, N2, rfl⟩ := InV hI
    have nbp := new_below w13 (.cells #[.int .i64 J2.kind, .int .i64 J2.cap, .slice Q0 o0 N0, .slice Q1 o1 N1, .int .i64 J2.size, .slice Q2 o2 N2] 33)
    have nbq := new_below (w13.alloc (.cells #[.int .i64 J2.kind, .int .i64 J2.cap, .slice Q0 o0 N0, .slice Q1 o1 N1, .int .i64 J2.size, .slice Q2 o2 N2] 33)) (.cells #[.int .i64 0, .int .i64 0] 52)
    have g13 := ((G12.out.next b13).next nbp).next nbq
    have a2 := (var_new 33 (hI.imp (F' := fun _ => True) (G' := fun _ => True) (fun _ _ => trivial) (fun _ _ => trivial))).next nbq
    have a13 := Lib.hid (A1.out.next b13)
    have a1 := (a13.out.next nbp).next nbq
    obtain ⟨w14, hw14⟩ : ∃ q, q = (w13.alloc (.cells #[.int .i64 J2.kind, .int .i64 J2.cap, .slice Q0 o0 N0, .slice Q1 o1 N1, .int .i64 J2.size, .slice Q2 o2 N2] 33)).alloc (.cells #[.int .i64 0, .int .i64 0] 52) := ⟨_, rfl⟩
    rw [← hw14] at g13 a1 a2
    have G14 := Lib.hid g13
    have A2 := Lib.hid a2
    have A1 := Lib.hid a1
    have cy := (a13.out).box
    obtain ⟨c0, c1, c2, c3, c4, c5⟩ := cy.box
    have hdl := cy.lt
    have hdl2 := Nat.lt_add_right 1 hdl
    clear PA2 G12 b13 nbp nbq hI g13 a1 a2 cy a13
    go_wp2_with fail
    rw [← hw14]
    clear hw14
    with_reducible refine (EQ _ _ _ A1.out.ins A2.out.ins).mono ?_
    rintro e w15 ⟨rfl, b15⟩
    have G15 := Lib.hid (G14.out.next b15)
    clear b15 G14 c0 c1 c2 c3 c4 c5 A1 A2 EQ hdl hdl2
    go_wp2
    go_ret
    exact ⟨rfl, G15.out.be⟩

/-! ### the row -/
open Go.ChangeShapes Go.WideShapes Go.ChangeAt
theorem lifted (os : Os) (started : os.Started) (H : Type) (enc : TypeId × Value → H) :
    ReturnsInHanded {} Tryz.checked os 6 .any (fun w args => (Rows.topTidySpec.pre enc Tryz.prog Tryz.f6 [] false w args ∧ laidMetH Tryz.prog laidL w) ∧ sizedMet enc Tryz.prog Tryz.f6 (OpenSpec.ofChange Rows.topTidySpec) false w args)
      (Rows.topTidySpec.post enc Tryz.prog Tryz.f6 false true false false) := by
  refine returnsInHanded_of_change_and (C := Tryz.checked) (X := fun w _ => laidMetH Tryz.prog laidL w) (fun _ _ _ hh h => h.of_heap hh) own started (by kernel_rfl) Tryz.func6
    (ChangeSpec.witness_shaped (enc := enc) (C := Tryz.checked) (os := os) (X := fun w _ => laidMetH Tryz.prog laidL w) false (World.laidAll Tryz.prog os laidL) #[.agg #[.int .i64 0, .int .i64 0, .slice none 0 0, .slice none 0 0, .int .i64 0, .slice none 0 0], .agg #[.int .i64 0, .int .i64 0, .slice none 0 0, .slice none 0 0, .int .i64 0, .slice none 0 0]] 8 (World.laidAll_os _ _ _) (start_shaped os) (by kernel_rfl) (by kernel_rfl) (by kernel_rfl) (start_met os _)) ?_
  intro W base args ds gs before hval0 hW _ hsz0 hL _
  have hval : ∀ (j : Nat) t v, Tryz.f6.params[j]? = some t → args[j]? = some v → Value.okWide Tryz.prog W .any base t v := hval0
  have hW' := hW
  obtain ⟨p, q, hA0, hV, rfl, hfz, hnd⟩ := hW
  have hA : DataW.TrodAll enc Tryz.prog W 0 (fun _ => true) true Tryz.f6.params.toList args.toList ds p := hA0
  rw [Tryz.params6] at hA hval
  obtain ⟨v0, vs0, d0, ds0, p0, q0, hargs, rfl, rfl, h0, r0⟩ := trodAll_cons hA
  obtain ⟨v1, vs1, d1, ds1, p1, q1, rfl, rfl, rfl, h1, r1⟩ := trodAll_cons r0
  obtain ⟨rfl, rfl, rfl⟩ := trodAll_nil r1
  obtain rfl : args = #[v0, v1] := by cases args; simp_all
  obtain ⟨rfl, rfl⟩ := trodVars_none hV
  have k0 := h0
  have lt0 : ∀ x ∈ p0, x.block < W.heap.size := by obtain ⟨m, hm⟩ := k0; exact DataW.trod_lt m _ _ _ hm
  obtain ⟨I0, w0, b0⟩ := open_inst (hval 0 58 v0 rfl rfl) h0
  have k1 := h1
  have lt1 : ∀ x ∈ p1, x.block < W.heap.size := by obtain ⟨m, hm⟩ := k1; exact DataW.trod_lt m _ _ _ hm
  obtain ⟨I1, w1, b1⟩ := open_inst (hval 1 58 v1 rfl rfl) h1
  clear hA0 hval0
  refine (walk I0 v0 I1 v1 W w0 b0 w1 b1 (libOk_of_laid hL) (words_of_laid hL) (tab_of_laid hL)).mono fun e W' ⟨he, bel⟩ => ?_
  subst he
  exact ⟨_, rfl, _, _, _, [], _, [], hW', trodAll_mk1 (shut_bool Tryz.underlying4 _), (trodAll_cons_mk (Below.trod laidOut (by kernel_rfl) (of_decide_eq_true (by kernel_rfl)) k0 bel lt0) (trodAll_cons_mk (Below.trod laidOut (by kernel_rfl) (of_decide_eq_true (by kernel_rfl)) k1 bel lt1) trodAll_mk0)), rfl, bel.frame _, fun h => by cases h⟩

theorem over : Rows.topTidyRow.holds Tryz.pinned (OpenSpec.ofChange Rows.topTidySpec) :=
  OpenClaim.holds_of_wide 6 Tryz.f6 rfl rfl rfl rfl rfl rfl rfl ⟨rfl, rfl, rfl, rfl, rfl⟩ rfl rfl rfl rfl rfl (by kernel_rfl) Tryz.func6 (by kernel_rfl)
    (of_decide_eq_true (by kernel_rfl)) (by unfold Func.isWrapper; first | (rw [if_pos (by decide +kernel)]; kernel_rfl) | (rw [if_neg (by decide +kernel)]; exact ⟨rfl, rfl⟩))
    (fun os started H enc _ => lifted os started H enc)

theorem card : Rows.TopTidyCardSaid :=
  Claim7.holds_tied_plain_at .later [] [.data, .data, .data, .data, .data, .sentinel, .sentinel, .pinned] true _ true
    over (fun _ h => by cases h) (by kernel_rfl) (fun _ h => by cases h) topTidy_row_tie rfl ⟨rfl, rfl⟩ (by kernel_rfl) rfl
    (fun f fn hf hfn => by
      obtain rfl : f = 6 := Option.some.inj ((show Tryz.prog.funcNamed Rows.topTidyRow.func = some 6 by kernel_rfl).symm.trans hf) |>.symm
      obtain rfl : fn = Tryz.f6 := (Option.some.inj (Tryz.func6.symm.trans hfn)).symm
      exact ⟨by kernel_rfl, fun j t ht => by
        rw [Tryz.params6] at ht
        have hm : t ∈ [58, 58] := by simpa using Array.mem_of_getElem? ht
        have hall : ([58, 58].all fun u => !Tryz.prog.wantsStandIn u) = true := by kernel_rfl
        exact (show Tryz.prog.wantsStandIn t = false by simpa using List.all_eq_true.1 hall t hm)⟩)
    (by kernel_rfl)

end Go.Proofs.YtbadingdklenhaaGreatDoor.topTidy
namespace Go.Proofs.YtbadingdklenhaaGreatDoor
theorem topTidy_holds : Rows.TopTidyCardSaid := topTidy.card
#print axioms topTidy_holds
end Go.Proofs.YtbadingdklenhaaGreatDoor
