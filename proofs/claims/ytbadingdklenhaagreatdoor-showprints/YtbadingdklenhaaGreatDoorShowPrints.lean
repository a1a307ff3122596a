/-
  ShowPrints: the text of every instance that comes in, as it is (cut to some length), and made to be one that may be, is the document's, or its error. For every instance, wherever it lies; under the row's own condition on the listed variables of Go's library and of the project.
-/
import Derived.Test.YtbadingdklenhaaGreatDoorL11TameS9M
import Derived.Test.YtbadingdklenhaaGreatDoorShowFrame
import Derived.Test.YtbadingdklenhaaGreatDoorShowDigitsM
import Derived.SevenTiedAt
namespace Go.Proofs.YtbadingdklenhaaGreatDoor.showPrints
open Go.Proofs.YtbadingdklenhaaGreatDoor
set_option maxRecDepth 100000
open Go.RowKit

theorem shape {F G : Nat → Prop} {w : World} {I J : In} {a b c : Value} (h : Ins F G w (inV I a b c) J) : (∃ A n C, a = .slice A n C) ∧ (∃ A n C, b = .slice A n C) ∧ (∃ A n C, c = .slice A n C) := by
  obtain ⟨vi, vc, vs, uc, us, e, hi, hc, hs⟩ := h.form
  unfold inV at e
  simp only [Value.agg.injEq, Array.mk.injEq, List.cons.injEq, and_true] at e
  obtain ⟨_, _, rfl, rfl, _, rfl⟩ := e
  obtain ⟨A0, C0, rfl, _, _⟩ := hi.form
  obtain ⟨A, C, rfl, _, _⟩ := hc.form
  obtain ⟨A2, C2, rfl, _, _⟩ := hs.form
  exact ⟨⟨_, _, _, rfl⟩, ⟨_, _, _, rfl⟩, ⟨_, _, _, rfl⟩⟩

set_option maxHeartbeats 4000000 in
theorem walk (I : In) (x : Value) (w : World) (h1 : Ins (fun _ => True) (fun _ => True) w x I) (_b1 : I64 I.kind ∧ I64 I.cap ∧ I64 I.size) (hL : LibOk w) (hW : WordsOk w) (hT : TabOk w) :
    Calls Tryz.prog 3 #[x] w fun e w' => e = .returned (.bool true) ∧ Below w.heap.size w w' := by
  have TM := fun W a => tame_any I x W a
  unfold IsTame at TM
  obtain ⟨vi, vc, vs, uc, us, rfl, hi, hc, hs⟩ := h1.form
  obtain ⟨A0, C0, rfl, _, _⟩ := hi.form
  obtain ⟨A, C, rfl, _, _⟩ := hc.form
  obtain ⟨A2, C2, rfl, _, _⟩ := hs.form
  obtain ⟨w0, hw0⟩ : ∃ q, q = w.alloc (.cells #[.int .i64 I.kind, .int .i64 I.cap, .slice A0 I.items.length C0, .slice A I.cost.length C, .int .i64 I.size, .slice A2 I.sets.length C2] 26) := ⟨_, rfl⟩
  have HX : Hid (IBlk w.heap.size 26 (.int .i64 I.kind) (.int .i64 I.cap) (.slice A0 I.items.length C0) (.slice A I.cost.length C) (.int .i64 I.size) (.slice A2 I.sets.length C2) w0) := by rw [hw0]; exact iblk_new _ _ _ _ _ _ _ _
  have HB : Hid (Below w.heap.size w w0) := by rw [hw0]; exact new_below w _
  have H1 := Lib.hid (h1.next HB.out)
  have HW := Lib.hid (show LibOk w0 ∧ WordsOk w0 ∧ TabOk w0 from ⟨hL.below HB.out, hW.next HB.out, hT.next HB.out⟩)
  have hs0 : w.heap.size < w0.heap.size := by rw [hw0]; simp
  obtain ⟨x0, x1, x2, x3, x4, x5⟩ := HX.out.box
  clear h1 hi hc hs hW hL hT
  go_enter Tryz.func3, Tryz.ntmps3
  go_wp2
  rw [← hw0]
  clear hw0
  go_region_held3 (fun W => W.cell? ⟨w.heap.size, 0, none⟩ = some (.int .i64 I.kind) ∧ W.cell? ⟨w.heap.size, 1, none⟩ = some (.int .i64 I.cap) ∧ W.cell? ⟨w.heap.size, 2, none⟩ = some (.slice A0 I.items.length C0) ∧ W.cell? ⟨w.heap.size, 3, none⟩ = some (.slice A I.cost.length C) ∧ W.cell? ⟨w.heap.size, 4, none⟩ = some (.int .i64 I.size) ∧ W.cell? ⟨w.heap.size, 5, none⟩ = some (.slice A2 I.sets.length C2))
    (first | go_keep | exact ⟨z0, z1, z2, z3, z4, z5⟩)
    (first
      | (go_at_call 7; (with_reducible refine (TM _ (H1.out.next ((Below.refl _ _).drew))).mono ?_); rintro e w1 ⟨J, v, rfl, hJ, sm, hch, b⟩
         obtain ⟨ti, tc, ts, tuc, tus, rfl, hti, htc, hts⟩ := hJ.form
         obtain ⟨B0, D0, rfl, _, _⟩ := hti.form
         obtain ⟨B1, D1, rfl, _, _⟩ := htc.form
         obtain ⟨B2, D2, rfl, _, _⟩ := hts.form
         have B1' := Lib.hid (on ((Below.refl w0.heap.size w0).drew) b)
         obtain ⟨z0, z1, z2, z3, z4, z5⟩ := (HX.out.next B1'.out).box
         have HJ := Lib.hid hJ
         have HCH := Lib.hid hch
         clear hti htc hts hJ b hch sm))
  go_wp2
  obtain ⟨w2, hw2⟩ : ∃ q, q = w1.alloc (.cells #[.int .i64 I.kind, .int .i64 I.cap, .slice A0 I.items.length C0, .slice A I.cost.length C, .int .i64 I.size, .slice A2 I.sets.length C2, .int .i64 J.kind, .int .i64 J.cap, .slice B0 J.items.length D0, .slice B1 J.cost.length D1, .int .i64 J.size, .slice B2 J.sets.length D2] 26) := ⟨_, rfl⟩
  have HL2 : Hid (w2.heap[w1.heap.size]? = some (.cells #[.int .i64 I.kind, .int .i64 I.cap, .slice A0 I.items.length C0, .slice A I.cost.length C, .int .i64 I.size, .slice A2 I.sets.length C2, .int .i64 J.kind, .int .i64 J.cap, .slice B0 J.items.length D0, .slice B1 J.cost.length D1, .int .i64 J.size, .slice B2 J.sets.length D2] 26 (0, 0))) := by rw [hw2]; exact heap_alloc_new _ _
  have HN2 : Hid (Below w1.heap.size w1 w2) := by rw [hw2]; exact new_below w1 _
  rw [← hw2]
  have HB2 := Lib.hid (on HB.out (on B1'.out HN2.out))
  have HX2 := Lib.hid (HX.out.next (on B1'.out HN2.out))
  have HW2 := Lib.hid (show LibOk w2 ∧ WordsOk w2 ∧ TabOk w2 from ⟨HW.out.1.below (on B1'.out HN2.out), HW.out.2.1.next (on B1'.out HN2.out), HW.out.2.2.next (on B1'.out HN2.out)⟩)
  have EL : Hid (∀ k, k < 2 → ∃ (Y : In) (P1 : Option Addr) (n1 K1 : Nat) (P2 : Option Addr) (n2 K2 : Nat) (P3 : Option Addr) (n3 K3 : Nat), w2.cell? ⟨w1.heap.size, k * 6, none⟩ = some (.int .i64 Y.kind) ∧ w2.cell? ⟨w1.heap.size, k * 6 + 1, none⟩ = some (.int .i64 Y.cap) ∧ w2.cell? ⟨w1.heap.size, k * 6 + 2, none⟩ = some (.slice P1 n1 K1) ∧ w2.cell? ⟨w1.heap.size, k * 6 + 3, none⟩ = some (.slice P2 n2 K2) ∧ w2.cell? ⟨w1.heap.size, k * 6 + 4, none⟩ = some (.int .i64 Y.size) ∧ w2.cell? ⟨w1.heap.size, k * 6 + 5, none⟩ = some (.slice P3 n3 K3) ∧ Ins (fun _ => True) (fun _ => True) w2 (.agg #[.int .i64 Y.kind, .int .i64 Y.cap, .slice P1 n1 K1, .slice P2 n2 K2, .int .i64 Y.size, .slice P3 n3 K3]) Y) := by
    intro k hk
    have hl := HL2.out
    match k, hk with
    | 0, _ => exact ⟨I, _, _, _, _, _, _, _, _, _, by unfold World.cell?; simp only [hl]; rfl, by unfold World.cell?; simp only [hl]; rfl, by unfold World.cell?; simp only [hl]; rfl, by unfold World.cell?; simp only [hl]; rfl, by unfold World.cell?; simp only [hl]; rfl, by unfold World.cell?; simp only [hl]; rfl, H1.out.next (on B1'.out HN2.out)⟩
    | 1, _ => exact ⟨J, _, _, _, _, _, _, _, _, _, by unfold World.cell?; simp only [hl]; rfl, by unfold World.cell?; simp only [hl]; rfl, by unfold World.cell?; simp only [hl]; rfl, by unfold World.cell?; simp only [hl]; rfl, by unfold World.cell?; simp only [hl]; rfl, by unfold World.cell?; simp only [hl]; rfl, HJ.out.next HN2.out⟩
  have hlb : w1.heap.size < w2.heap.size := lt_of_block HL2.out
  clear hw2 HL2 HN2 B1' HJ HCH H1 HX HB HW z0 z1 z2 z3 z4 z5 TM
  go_loopw [16] (fun i wr => ∃ (k : Nat), k ≤ 2 ∧ i = .int .i64 (k : Nat) ∧ Hid (Below w2.heap.size w2 wr)) (fun i _ => 2 - (intOf i).toNat)
  case atStart => exact ⟨0, by omega, rfl, Below.refl _ _⟩
  case round =>
    obtain ⟨k, hk, rfl, hR⟩ := hrel
    by_cases hlt : k < 2
    · obtain ⟨Y, P1, n1, K1, P2, n2, K2, P3, n3, K3, e0, e1, e2, e3, e4, e5, hY⟩ := EL.out k hlt
      have cl := fun o v (h : w2.cell? ⟨w1.heap.size, o, none⟩ = some v) => (hR.out.cell (p := ⟨w1.heap.size, o, none⟩) hlb).trans h
      have f0 := cl _ _ e0
      have f1 := cl _ _ e1
      have f2 := cl _ _ e2
      have f3 := cl _ _ e3
      have f4 := cl _ _ e4
      have f5 := cl _ _ e5
      have c01 : (0 : Int) ≤ (k : Int) := by omega
      have c02 : (k : Int) < 2 := by omega
      have HNB := Lib.hid (on hR.out (new_below wr (.cells #[.int .i64 Y.kind, .int .i64 Y.cap, .slice P1 n1 K1, .slice P2 n2 K2, .int .i64 Y.size, .slice P3 n3 K3] 26)))
      have IN := insts_any (fun _ => True) (fun _ => True) Y _ _ (hY.next HNB.out)
      unfold IsInsts at IN
      obtain ⟨Y1, hY1⟩ : ∃ q, Y.cut = q := ⟨_, rfl⟩
      rw [hY1] at IN
      clear e0 e1 e2 e3 e4 e5 hY cl hY1 hR
      go_wp2_with fail
      with_reducible refine IN.mono ?_
      rintro e w3 ⟨ai, ac, az, auc, aus, ci, cc, cs, rfl, mA, mC, b1⟩
      obtain ⟨⟨U1, l1, M1, rfl⟩, ⟨U2, l2, M2, rfl⟩, ⟨U3, l3, M3, rfl⟩⟩ := shape mA.ins
      obtain ⟨⟨U4, l4, M4, rfl⟩, ⟨U5, l5, M5, rfl⟩, ⟨U6, l6, M6, rfl⟩⟩ := shape mC
      have nb1 := (new_below w3 (.cells #[.int .i64 Y1.kind, .int .i64 Y1.cap, .slice U1 l1 M1, .slice U2 l2 M2, .int .i64 Y1.size, .slice U3 l3 M3] 33)).alloc (by simp) (.cells #[.int .i64 Y1.kind, .int .i64 Y1.cap, .slice U4 l4 M4, .slice U5 l5 M5, .int .i64 Y1.size, .slice U6 l6 M6] 36)
      obtain ⟨w5, hw5⟩ : ∃ q, q = (w3.alloc (.cells #[.int .i64 Y1.kind, .int .i64 Y1.cap, .slice U1 l1 M1, .slice U2 l2 M2, .int .i64 Y1.size, .slice U3 l3 M3] 33)).alloc (.cells #[.int .i64 Y1.kind, .int .i64 Y1.cap, .slice U4 l4 M4, .slice U5 l5 M5, .int .i64 Y1.size, .slice U6 l6 M6] 36) := ⟨_, rfl⟩
      have xA := (iblk_new w3 (.int .i64 Y1.kind) (.int .i64 Y1.cap) (.slice U1 l1 M1) (.slice U2 l2 M2) (.int .i64 Y1.size) (.slice U3 l3 M3) 33).next (new_below _ (.cells #[.int .i64 Y1.kind, .int .i64 Y1.cap, .slice U4 l4 M4, .slice U5 l5 M5, .int .i64 Y1.size, .slice U6 l6 M6] 36))
      have xD := iblk_new (w3.alloc (.cells #[.int .i64 Y1.kind, .int .i64 Y1.cap, .slice U1 l1 M1, .slice U2 l2 M2, .int .i64 Y1.size, .slice U3 l3 M3] 33)) (.int .i64 Y1.kind) (.int .i64 Y1.cap) (.slice U4 l4 M4) (.slice U5 l5 M5) (.int .i64 Y1.size) (.slice U6 l6 M6) 36
      rw [World.size_alloc] at xD
      rw [← hw5] at nb1 xA xD
      have hA := mA.ins.next nb1
      have hC := mC.next nb1
      have HB5 := Lib.hid (on HNB.out (on b1 nb1))
      have hW5 : LibOk w5 ∧ WordsOk w5 ∧ TabOk w5 := ⟨HW2.out.1.below HB5.out, HW2.out.2.1.next HB5.out, HW2.out.2.2.next HB5.out⟩
      have PR := print_any _ _ Y1 _ w5 hA hW5.2.1 hW5.2.2
      have RP := fun W (a : Below w5.heap.size w5 W) => rprint_any _ _ Y1 _ W (hC.next a)
      obtain ⟨a0, a1, a2, a3, a4, a5⟩ := xA.box
      have HXD := Lib.hid xD
      have hxl := xA.lt
      unfold inV at PR RP
      clear hW5 mA mC nb1 b1 IN HNB f0 f1 f2 f3 f4 f5 hA hC xA xD
      generalize prE Y1 = pe at *
      generalize (⟨(prT Y1).toArray⟩ : ByteArray) = pt at *
      unfold inV
      go_wp2_with fail
      rw [← hw5]
      clear hw5
      with_reducible refine PR.mono ?_
      rintro e w6 ⟨rfl, b6⟩
      obtain ⟨d0, d1, d2, d3, d4, d5⟩ := (HXD.out.next b6).box
      have hdl := (HXD.out.next b6).lt
      have RP6 := RP _ b6
      have HB6 := Lib.hid (on HB5.out b6)
      clear PR RP b6 HXD a0 a1 a2 a3 a4 a5 HB5
      go_wp2_with fail
      with_reducible refine RP6.mono ?_
      rintro e w7 ⟨rfl, b7⟩
      have HB7 := Lib.hid (on HB6.out b7)
      clear b7 RP6 HB6 d0 d1 d2 d3 d4 d5
      go_wp2
      exact ⟨⟨k + 1, by omega, by go_num, HB7⟩, by simp [intOf]; omega⟩
    · obtain rfl : k = 2 := by omega
      have HB3 := Lib.hid (on HB2.out hR.out)
      have HW3 := Lib.hid (show LibOk wr ∧ WordsOk wr ∧ TabOk wr from ⟨HW2.out.1.below hR.out, HW2.out.2.1.next hR.out, HW2.out.2.2.next hR.out⟩)
      clear hR HX2 HW2 HB2 EL
      go_wp2_with fail
      with_reducible refine (wakes_any _ HW3.out.1 HW3.out.2.1 HW3.out.2.2).mono ?_
      rintro e w4 ⟨rfl, b4⟩
      have HB6 := Lib.hid (on HB3.out b4)
      clear b4 HB3 HW3
      go_wp2
      go_ret
      exact ⟨rfl, HB6.out⟩

/-! ### the row -/
open Go.ChangeShapes Go.WideShapes Go.ChangeAt
theorem lifted (os : Os) (started : os.Started) (H : Type) (enc : TypeId × Value → H) :
    ReturnsInHanded {} Tryz.checked os 3 .any (fun w args => (Rows.showPrintsSpec.pre enc Tryz.prog Tryz.f3 [] false w args ∧ laidMetH Tryz.prog laidL w) ∧ sizedMet enc Tryz.prog Tryz.f3 (OpenSpec.ofChange Rows.showPrintsSpec) false w args)
      (Rows.showPrintsSpec.post enc Tryz.prog Tryz.f3 false true false false) := by
  refine returnsInHanded_of_change_and (C := Tryz.checked) (X := fun w _ => laidMetH Tryz.prog laidL w) (fun _ _ _ hh h => h.of_heap hh) own started (by kernel_rfl) Tryz.func3
    (ChangeSpec.witness_shaped (enc := enc) (C := Tryz.checked) (os := os) (X := fun w _ => laidMetH Tryz.prog laidL w) false (World.laidAll Tryz.prog os laidL) #[.agg #[.int .i64 0, .int .i64 0, .slice none 0 0, .slice none 0 0, .int .i64 0, .slice none 0 0]] 8 (World.laidAll_os _ _ _) (start_shaped os) (by kernel_rfl) (by kernel_rfl) (by kernel_rfl) (start_met os _)) ?_
  intro W base args ds gs before hval0 hW _ hsz0 hL _
  have hval : ∀ (j : Nat) t v, Tryz.f3.params[j]? = some t → args[j]? = some v → Value.okWide Tryz.prog W .any base t v := hval0
  have hW' := hW
  obtain ⟨p, q, hA0, hV, rfl, hfz, hnd⟩ := hW
  have hA : DataW.TrodAll enc Tryz.prog W 0 (fun _ => true) true Tryz.f3.params.toList args.toList ds p := hA0
  rw [Tryz.params3] at hA hval
  obtain ⟨v0, vs0, d0, ds0, p0, q0, hargs, rfl, rfl, h0, r0⟩ := trodAll_cons hA
  obtain ⟨rfl, rfl, rfl⟩ := trodAll_nil r0
  obtain rfl : args = #[v0] := by cases args; simp_all
  obtain ⟨rfl, rfl⟩ := trodVars_none hV
  have k0 := h0
  have lt0 : ∀ x ∈ p0, x.block < W.heap.size := by obtain ⟨m, hm⟩ := k0; exact DataW.trod_lt m _ _ _ hm
  obtain ⟨I0, w0, b0⟩ := open_inst (hval 0 26 v0 rfl rfl) h0
  clear hA0 hval0
  refine (walk I0 v0 W w0 b0 (libOk_of_laid hL) (words_of_laid hL) (tab_of_laid hL)).mono fun e W' ⟨he, bel⟩ => ?_
  subst he
  exact ⟨_, rfl, _, _, _, [], _, [], hW', trodAll_mk1 (shut_bool Tryz.underlying4 _), (trodAll_cons_mk (Below.trod laidOut (by kernel_rfl) (of_decide_eq_true (by kernel_rfl)) k0 bel lt0) trodAll_mk0), rfl, bel.frame _, fun h => by cases h⟩

theorem over : Rows.showPrintsRow.holds Tryz.pinned (OpenSpec.ofChange Rows.showPrintsSpec) :=
  OpenClaim.holds_of_wide 3 Tryz.f3 rfl rfl rfl rfl rfl rfl rfl ⟨rfl, rfl, rfl, rfl, rfl⟩ rfl rfl rfl rfl rfl (by kernel_rfl) Tryz.func3 (by kernel_rfl)
    (of_decide_eq_true (by kernel_rfl)) (by unfold Func.isWrapper; first | (rw [if_pos (by decide +kernel)]; kernel_rfl) | (rw [if_neg (by decide +kernel)]; exact ⟨rfl, rfl⟩))
    (fun os started H enc _ => lifted os started H enc)

theorem card : Rows.ShowPrintsCardSaid :=
  Claim7.holds_tied_plain_at .later [] [.data, .data, .data, .data, .data, .sentinel, .sentinel, .pinned] true _ true
    over (fun _ h => by cases h) (by kernel_rfl) (fun _ h => by cases h) showPrints_row_tie rfl ⟨rfl, rfl⟩ (by kernel_rfl) rfl
    (fun f fn hf hfn => by
      obtain rfl : f = 3 := Option.some.inj ((show Tryz.prog.funcNamed Rows.showPrintsRow.func = some 3 by kernel_rfl).symm.trans hf) |>.symm
      obtain rfl : fn = Tryz.f3 := (Option.some.inj (Tryz.func3.symm.trans hfn)).symm
      exact ⟨by kernel_rfl, fun j t ht => by
        rw [Tryz.params3] at ht
        have hm : t ∈ [26] := by simpa using Array.mem_of_getElem? ht
        have hall : ([26].all fun u => !Tryz.prog.wantsStandIn u) = true := by kernel_rfl
        exact (show Tryz.prog.wantsStandIn t = false by simpa using List.all_eq_true.1 hall t hm)⟩)
    (by kernel_rfl)

end Go.Proofs.YtbadingdklenhaaGreatDoor.showPrints
namespace Go.Proofs.YtbadingdklenhaaGreatDoor
theorem showPrints_holds : Rows.ShowPrintsCardSaid := showPrints.card
#print axioms showPrints_holds
end Go.Proofs.YtbadingdklenhaaGreatDoor
