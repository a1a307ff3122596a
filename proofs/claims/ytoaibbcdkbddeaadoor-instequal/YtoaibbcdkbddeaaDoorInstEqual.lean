/-
  InstEqual (layer 9, P9.2): which two instances are the same is the document's answer, and a copy is the same: for every two instances the law returns true, and they read as they did. Condition: the listed table of the kinds' words reads as the row says (tied to the program's text).
-/
import Derived.Test.YtoaibbcdkbddeaaDoorInstMake
import Derived.Test.YtoaibbcdkbddeaaDoorInstWake
import Derived.Test.YtoaibbcdkbddeaaDoorInstRefEq
import Derived.Test.YtoaibbcdkbddeaaDoorInstFrame
import Derived.SevenTiedAt
namespace Go.Proofs.YtoaibbcdkbddeaaDoor.instEqual
open Go.Proofs.YtoaibbcdkbddeaaDoor
set_option maxRecDepth 100000
open Go.RowKit

theorem shape {F G : Nat → Prop} {w : World} {I J : In} {a b c : Value} (h : Ins F G w (inV I a b c) J) : (∃ A n C, a = .slice A n C) ∧ (∃ A n C, b = .slice A n C) ∧ (∃ A n C, c = .slice A n C) := by
  obtain ⟨vi, vc, vs, uc, us, e, hi, hc, hs⟩ := h.form
  unfold inV at e
  simp only [Value.agg.injEq, Array.mk.injEq, List.cons.injEq, and_true] at e
  obtain ⟨_, _, rfl, rfl, _, rfl⟩ := e
  obtain ⟨A0, C0, rfl, _, _⟩ := hi.form
  obtain ⟨A, C, rfl, _, _⟩ := hc.form
  obtain ⟨A2, C2, rfl, _, _⟩ := hs.form
  exact ⟨⟨_, _, _, rfl⟩, ⟨_, _, _, rfl⟩, ⟨_, _, _, rfl⟩⟩

set_option maxHeartbeats 4000000 in
theorem walk (I : In) (x : Value) (J : In) (y : Value) (w : World) (h1 : Ins (fun _ => True) (fun _ => True) w x I) (_b1 : I64 I.kind ∧ I64 I.cap ∧ I64 I.size) (h2 : Ins (fun _ => True) (fun _ => True) w y J) (_b2 : I64 J.kind ∧ I64 J.cap ∧ I64 J.size) (hW : WordsOk w) :
    Calls Tryd.prog 4 #[x, y] w fun e w' => e = .returned (.bool true) ∧ Below w.heap.size w w' := by
  have IN1 := fun W a => insts_any (fun _ => True) (fun _ => True) I x W a
  have IN2 := fun W a => insts_any (fun _ => True) (fun _ => True) J y W a
  have sm1 := In.cut_small I
  unfold IsInsts at IN1 IN2
  obtain ⟨I1, hI1⟩ : ∃ q, I.cut = q := ⟨_, rfl⟩
  obtain ⟨J1, hJ1⟩ : ∃ q, J.cut = q := ⟨_, rfl⟩
  rw [hI1] at IN1 sm1
  rw [hJ1] at IN2
  clear hI1 hJ1 _b1 _b2
  obtain ⟨vi, vc, vs, uc, us, rfl, hi, hc, hs⟩ := h1.form
  obtain ⟨xi, xc, xs, yc, ys, rfl, ji, jc, js⟩ := h2.form
  obtain ⟨A0, C0, rfl, _, _⟩ := hi.form
  obtain ⟨A, C, rfl, _, _⟩ := hc.form
  obtain ⟨A2, C2, rfl, _, _⟩ := hs.form
  obtain ⟨A3, C3, rfl, _, _⟩ := ji.form
  obtain ⟨A4, C4, rfl, _, _⟩ := jc.form
  obtain ⟨A5, C5, rfl, _, _⟩ := js.form
  have nb := (new_below w (.cells #[.int .i64 I.kind, .int .i64 I.cap, .slice A0 I.items.length C0, .slice A I.cost.length C, .int .i64 I.size, .slice A2 I.sets.length C2] 26)).alloc (by simp) (.cells #[.int .i64 J.kind, .int .i64 J.cap, .slice A3 J.items.length C3, .slice A4 J.cost.length C4, .int .i64 J.size, .slice A5 J.sets.length C5] 26)
  have HY := Lib.hid (iblk_new (w.alloc (.cells #[.int .i64 I.kind, .int .i64 I.cap, .slice A0 I.items.length C0, .slice A I.cost.length C, .int .i64 I.size, .slice A2 I.sets.length C2] 26)) (.int .i64 J.kind) (.int .i64 J.cap) (.slice A3 J.items.length C3) (.slice A4 J.cost.length C4) (.int .i64 J.size) (.slice A5 J.sets.length C5) 26)
  rw [World.size_alloc] at HY
  have H1 := Lib.hid (h1.next nb)
  have H2 := Lib.hid (h2.next nb)
  have HB := Lib.hid nb
  have HW := Lib.hid (hW.next nb)
  have SM1 := Lib.hid sm1
  clear h1 h2 hi hc hs ji jc js nb hW sm1
  go_enter Tryd.func4, Tryd.ntmps4
  go_wp2_with fail
  with_reducible refine (IN1 _ H1.out).mono ?_
  rintro e w1 ⟨ai, ac, az, auc, aus, ci, cc, cs, rfl, mA, mC, b1⟩
  obtain ⟨⟨P1, n1, K1, rfl⟩, ⟨P2, n2, K2, rfl⟩, ⟨P3, n3, K3, rfl⟩⟩ := shape mA.ins
  obtain ⟨⟨P4, n4, K4, rfl⟩, ⟨P5, n5, K5, rfl⟩, ⟨P6, n6, K6, rfl⟩⟩ := shape mC
  have nb1 := (new_below w1 (.cells #[.int .i64 I1.kind, .int .i64 I1.cap, .slice P1 n1 K1, .slice P2 n2 K2, .int .i64 I1.size, .slice P3 n3 K3] 33)).alloc (by simp) (.cells #[.int .i64 I1.kind, .int .i64 I1.cap, .slice P4 n4 K4, .slice P5 n5 K5, .int .i64 I1.size, .slice P6 n6 K6] 36)
  have HA := Lib.hid (mA.ins.next nb1)
  have HC := Lib.hid (mC.next nb1)
  have bb := on b1 nb1
  have HB1 := Lib.hid (on HB.out bb)
  have H21 := Lib.hid (H2.out.next bb)
  have HY1 := Lib.hid (HY.out.next bb)
  have HW1 := Lib.hid (HW.out.next bb)
  have XA := Lib.hid ((iblk_new w1 (.int .i64 I1.kind) (.int .i64 I1.cap) (.slice P1 n1 K1) (.slice P2 n2 K2) (.int .i64 I1.size) (.slice P3 n3 K3) 33).next (new_below _ (.cells #[.int .i64 I1.kind, .int .i64 I1.cap, .slice P4 n4 K4, .slice P5 n5 K5, .int .i64 I1.size, .slice P6 n6 K6] 36)))
  have XC := Lib.hid (iblk_new (w1.alloc (.cells #[.int .i64 I1.kind, .int .i64 I1.cap, .slice P1 n1 K1, .slice P2 n2 K2, .int .i64 I1.size, .slice P3 n3 K3] 33)) (.int .i64 I1.kind) (.int .i64 I1.cap) (.slice P4 n4 K4) (.slice P5 n5 K5) (.int .i64 I1.size) (.slice P6 n6 K6) 36)
  rw [World.size_alloc] at XC
  obtain ⟨y0, y1, y2, y3, y4, y5⟩ := (HY.out.next b1).box
  have hyl := cell_lt y0
  have hyl2 : w.heap.size + 1 < w1.heap.size + 1 := by omega
  clear mA mC nb1 b1 bb HB H1 H2 HY HW IN1
  unfold inV
  go_wp2_with fail
  with_reducible refine (IN2 _ H21.out).mono ?_
  rintro e w2 ⟨bi, bc, bs, buc, bus, di, dc, ds, rfl, mB, mD, b2⟩
  obtain ⟨⟨Q1, l1, M1, rfl⟩, ⟨Q2, l2, M2, rfl⟩, ⟨Q3, l3, M3, rfl⟩⟩ := shape mB.ins
  obtain ⟨⟨Q4, l4, M4, rfl⟩, ⟨Q5, l5, M5, rfl⟩, ⟨Q6, l6, M6, rfl⟩⟩ := shape mD
  have nb2 := (new_below w2 (.cells #[.int .i64 J1.kind, .int .i64 J1.cap, .slice Q1 l1 M1, .slice Q2 l2 M2, .int .i64 J1.size, .slice Q3 l3 M3] 33)).alloc (by simp) (.cells #[.int .i64 J1.kind, .int .i64 J1.cap, .slice Q4 l4 M4, .slice Q5 l5 M5, .int .i64 J1.size, .slice Q6 l6 M6] 36)
  have bb := on b2 nb2
  have hB := mB.ins.next nb2
  have hD := mD.next nb2
  have hA := HA.out.next bb
  have hC := HC.out.next bb
  have HB2 := Lib.hid (on HB1.out bb)
  have hW2 := HW1.out.next bb
  have xA := XA.out.next bb
  have xC := XC.out.next bb
  have xB := (iblk_new w2 (.int .i64 J1.kind) (.int .i64 J1.cap) (.slice Q1 l1 M1) (.slice Q2 l2 M2) (.int .i64 J1.size) (.slice Q3 l3 M3) 33).next (new_below _ (.cells #[.int .i64 J1.kind, .int .i64 J1.cap, .slice Q4 l4 M4, .slice Q5 l5 M5, .int .i64 J1.size, .slice Q6 l6 M6] 36))
  have xD := iblk_new (w2.alloc (.cells #[.int .i64 J1.kind, .int .i64 J1.cap, .slice Q1 l1 M1, .slice Q2 l2 M2, .int .i64 J1.size, .slice Q3 l3 M3] 33)) (.int .i64 J1.kind) (.int .i64 J1.cap) (.slice Q4 l4 M4) (.slice Q5 l5 M5) (.int .i64 J1.size) (.slice Q6 l6 M6) 36
  rw [World.size_alloc] at xD
  obtain ⟨w5, hw5⟩ : ∃ q, q = (w2.alloc (.cells #[.int .i64 J1.kind, .int .i64 J1.cap, .slice Q1 l1 M1, .slice Q2 l2 M2, .int .i64 J1.size, .slice Q3 l3 M3] 33)).alloc (.cells #[.int .i64 J1.kind, .int .i64 J1.cap, .slice Q4 l4 M4, .slice Q5 l5 M5, .int .i64 J1.size, .slice Q6 l6 M6] 36) := ⟨_, rfl⟩
  rw [← hw5] at hB hD hA hC HB2 hW2 xA xC xB xD
  obtain ⟨E, hE⟩ : ∃ E, In.eqI I1 J1 = E := ⟨_, rfl⟩
  have WK := fun W (a : Below w5.heap.size w5 W) => wakes_any W (hW2.next a)
  have EQ := fun W (a : Below w5.heap.size w5 W) => equal_any _ _ _ _ I1 J1 _ _ W (hA.next a) (hB.next a)
  have RQ := fun W (a : Below w5.heap.size w5 W) => requal_any _ _ _ _ I1 J1 _ _ W (hC.next a) (hD.next a)
  have CC := fun W (a : Below w5.heap.size w5 W) => copy_any _ _ I1 _ W (hA.next a) SM1.out
  have E1 := fun W v (a : Below w5.heap.size w5 W) (F G : Nat → Prop) (b : Ins F G W v I1) => equal_any _ _ F G I1 I1 _ v W (hA.next a) b
  have E2 := fun W v (a : Below w5.heap.size w5 W) (F G : Nat → Prop) (b : Ins F G W v I1) => equal_any F G _ _ I1 I1 v _ W b (hA.next a)
  rw [hE] at EQ RQ
  rw [In.eqI_self] at E1 E2
  clear hE
  unfold inV at EQ RQ CC E1 E2
  have XS : ∀ W, Below w5.heap.size w5 W → W.cell? ⟨w1.heap.size, 0, none⟩ = some (.int .i64 I1.kind) ∧ W.cell? ⟨w1.heap.size, 1, none⟩ = some (.int .i64 I1.cap) ∧ W.cell? ⟨w1.heap.size, 2, none⟩ = some (.slice P1 n1 K1) ∧ W.cell? ⟨w1.heap.size, 3, none⟩ = some (.slice P2 n2 K2) ∧ W.cell? ⟨w1.heap.size, 4, none⟩ = some (.int .i64 I1.size) ∧ W.cell? ⟨w1.heap.size, 5, none⟩ = some (.slice P3 n3 K3) ∧ W.cell? ⟨w1.heap.size + 1, 0, none⟩ = some (.int .i64 I1.kind) ∧ W.cell? ⟨w1.heap.size + 1, 1, none⟩ = some (.int .i64 I1.cap) ∧ W.cell? ⟨w1.heap.size + 1, 2, none⟩ = some (.slice P4 n4 K4) ∧ W.cell? ⟨w1.heap.size + 1, 3, none⟩ = some (.slice P5 n5 K5) ∧ W.cell? ⟨w1.heap.size + 1, 4, none⟩ = some (.int .i64 I1.size) ∧ W.cell? ⟨w1.heap.size + 1, 5, none⟩ = some (.slice P6 n6 K6) ∧ W.cell? ⟨w2.heap.size, 0, none⟩ = some (.int .i64 J1.kind) ∧ W.cell? ⟨w2.heap.size, 1, none⟩ = some (.int .i64 J1.cap) ∧ W.cell? ⟨w2.heap.size, 2, none⟩ = some (.slice Q1 l1 M1) ∧ W.cell? ⟨w2.heap.size, 3, none⟩ = some (.slice Q2 l2 M2) ∧ W.cell? ⟨w2.heap.size, 4, none⟩ = some (.int .i64 J1.size) ∧ W.cell? ⟨w2.heap.size, 5, none⟩ = some (.slice Q3 l3 M3) ∧ W.cell? ⟨w2.heap.size + 1, 0, none⟩ = some (.int .i64 J1.kind) ∧ W.cell? ⟨w2.heap.size + 1, 1, none⟩ = some (.int .i64 J1.cap) ∧ W.cell? ⟨w2.heap.size + 1, 2, none⟩ = some (.slice Q4 l4 M4) ∧ W.cell? ⟨w2.heap.size + 1, 3, none⟩ = some (.slice Q5 l5 M5) ∧ W.cell? ⟨w2.heap.size + 1, 4, none⟩ = some (.int .i64 J1.size) ∧ W.cell? ⟨w2.heap.size + 1, 5, none⟩ = some (.slice Q6 l6 M6) := by
    intro W hW
    obtain ⟨a0, a1, a2, a3, a4, a5⟩ := (xA.next hW).box
    obtain ⟨c0, c1, c2, c3, c4, c5⟩ := (xC.next hW).box
    obtain ⟨b0, b1, b2, b3, b4, b5⟩ := (xB.next hW).box
    obtain ⟨d0, d1, d2, d3, d4, d5⟩ := (xD.next hW).box
    exact ⟨a0, a1, a2, a3, a4, a5, c0, c1, c2, c3, c4, c5, b0, b1, b2, b3, b4, b5, d0, d1, d2, d3, d4, d5⟩
  have HXS := Lib.hid XS
  have FB : Hid (Below w5.heap.size w5 w5.drew) := (Below.refl _ _).drew
  clear XS xA xB xC xD hA hB hC hD hW2 mB mD nb2 b2 bb HA HC XA XC H21 HY1 HW1 HB1 IN2 y0 y1 y2 y3 y4 y5 hyl hyl2
  unfold inV
  go_wp2
  rw [← hw5]
  clear hw5
  go_region_held3 (fun W => W.cell? ⟨w1.heap.size, 0, none⟩ = some (.int .i64 I1.kind) ∧ W.cell? ⟨w1.heap.size, 1, none⟩ = some (.int .i64 I1.cap) ∧ W.cell? ⟨w1.heap.size, 2, none⟩ = some (.slice P1 n1 K1) ∧ W.cell? ⟨w1.heap.size, 3, none⟩ = some (.slice P2 n2 K2) ∧ W.cell? ⟨w1.heap.size, 4, none⟩ = some (.int .i64 I1.size) ∧ W.cell? ⟨w1.heap.size, 5, none⟩ = some (.slice P3 n3 K3) ∧ W.cell? ⟨w1.heap.size + 1, 0, none⟩ = some (.int .i64 I1.kind) ∧ W.cell? ⟨w1.heap.size + 1, 1, none⟩ = some (.int .i64 I1.cap) ∧ W.cell? ⟨w1.heap.size + 1, 2, none⟩ = some (.slice P4 n4 K4) ∧ W.cell? ⟨w1.heap.size + 1, 3, none⟩ = some (.slice P5 n5 K5) ∧ W.cell? ⟨w1.heap.size + 1, 4, none⟩ = some (.int .i64 I1.size) ∧ W.cell? ⟨w1.heap.size + 1, 5, none⟩ = some (.slice P6 n6 K6) ∧ W.cell? ⟨w2.heap.size, 0, none⟩ = some (.int .i64 J1.kind) ∧ W.cell? ⟨w2.heap.size, 1, none⟩ = some (.int .i64 J1.cap) ∧ W.cell? ⟨w2.heap.size, 2, none⟩ = some (.slice Q1 l1 M1) ∧ W.cell? ⟨w2.heap.size, 3, none⟩ = some (.slice Q2 l2 M2) ∧ W.cell? ⟨w2.heap.size, 4, none⟩ = some (.int .i64 J1.size) ∧ W.cell? ⟨w2.heap.size, 5, none⟩ = some (.slice Q3 l3 M3) ∧ W.cell? ⟨w2.heap.size + 1, 0, none⟩ = some (.int .i64 J1.kind) ∧ W.cell? ⟨w2.heap.size + 1, 1, none⟩ = some (.int .i64 J1.cap) ∧ W.cell? ⟨w2.heap.size + 1, 2, none⟩ = some (.slice Q4 l4 M4) ∧ W.cell? ⟨w2.heap.size + 1, 3, none⟩ = some (.slice Q5 l5 M5) ∧ W.cell? ⟨w2.heap.size + 1, 4, none⟩ = some (.int .i64 J1.size) ∧ W.cell? ⟨w2.heap.size + 1, 5, none⟩ = some (.slice Q6 l6 M6)) (exact HXS.out _ FB.out)
    (first
      | (go_at_call 13; (with_reducible refine (WK _ FB.out).mono ?_); rintro e wn ⟨rfl, b⟩
         have FB := Lib.hid (on FB.out b)
         clear b)
      | (go_at_call 15; (with_reducible refine (EQ _ FB.out).mono ?_); rintro e wn ⟨rfl, b⟩
         have FB := Lib.hid (on FB.out b)
         clear b)
      | (go_at_call 16; (with_reducible refine (RQ _ FB.out).mono ?_); rintro e wn ⟨rfl, b⟩
         have FB := Lib.hid (on FB.out b)
         clear b)
      | (go_at_call 17; (with_reducible refine (CC _ FB.out).mono ?_); rintro e wn ⟨vi, vc, vs, uc, us, m1, m2, m3, m4, rfl, own, b⟩
         have HCO := Lib.hid own.ins
         have FB := Lib.hid (on FB.out b)
         clear b own)
      | (go_at_call 15; (with_reducible refine (E1 _ _ FB.out _ _ HCO.out).mono ?_); rintro e wn ⟨rfl, b⟩
         have FB := Lib.hid (on FB.out b)
         clear b)
      | (go_at_call 15; (with_reducible refine (E2 _ _ FB.out _ _ HCO.out).mono ?_); rintro e wn ⟨rfl, b⟩
         have FB := Lib.hid (on FB.out b)
         clear b))
  all_goals
    go_wp2
    go_ret
    exact ⟨rfl, on HB2.out FB.out⟩

/-! ### the row -/
open Go.ChangeShapes Go.WideShapes Go.ChangeAt
theorem lifted (os : Os) (started : os.Started) (H : Type) (enc : TypeId × Value → H) :
    ReturnsInHanded {} Tryd.checked os 4 .any (fun w args => (Rows.instEqualSpec.pre enc Tryd.prog Tryd.f4 [] false w args ∧ laidMetH Tryd.prog laidL w) ∧ sizedMet enc Tryd.prog Tryd.f4 (OpenSpec.ofChange Rows.instEqualSpec) false w args)
      (Rows.instEqualSpec.post enc Tryd.prog Tryd.f4 false true false false) := by
  refine returnsInHanded_of_change_and (C := Tryd.checked) (X := fun w _ => laidMetH Tryd.prog laidL w) (fun _ _ _ hh h => h.of_heap hh) own started (by kernel_rfl) Tryd.func4
    (ChangeSpec.witness_shaped (enc := enc) (C := Tryd.checked) (os := os) (X := fun w _ => laidMetH Tryd.prog laidL w) false (World.laidAll Tryd.prog os laidL) #[.agg #[.int .i64 0, .int .i64 0, .slice none 0 0, .slice none 0 0, .int .i64 0, .slice none 0 0], .agg #[.int .i64 0, .int .i64 0, .slice none 0 0, .slice none 0 0, .int .i64 0, .slice none 0 0]] 8 (World.laidAll_os _ _ _) (start_shaped os) (by kernel_rfl) (by kernel_rfl) (by kernel_rfl) (start_met os _)) ?_
  intro W base args ds gs before hval0 hW _ _ hL _
  have hval : ∀ (j : Nat) t v, Tryd.f4.params[j]? = some t → args[j]? = some v → Value.okWide Tryd.prog W .any base t v := hval0
  have hW' := hW
  obtain ⟨p, q, hA0, hV, rfl, hfz, hnd⟩ := hW
  have hA : DataW.TrodAll enc Tryd.prog W 0 (fun _ => true) true Tryd.f4.params.toList args.toList ds p := hA0
  rw [Tryd.params4] at hA hval
  obtain ⟨v0, vs0, d0, ds0, p0, q0, hargs, rfl, rfl, h0, r0⟩ := trodAll_cons hA
  obtain ⟨v1, vs1, d1, ds1, p1, q1, rfl, rfl, rfl, h1, r1⟩ := trodAll_cons r0
  obtain ⟨rfl, rfl, rfl⟩ := trodAll_nil r1
  obtain rfl : args = #[v0, v1] := by cases args; simp_all
  obtain ⟨rfl, rfl⟩ := trodVars_none hV
  have k0 := h0
  have lt0 : ∀ x ∈ p0, x.block < W.heap.size := by obtain ⟨m, hm⟩ := k0; exact DataW.trod_lt m _ _ _ hm
  obtain ⟨I0, w0, b0⟩ := open_inst (hval 0 26 v0 rfl rfl) h0
  have k1 := h1
  have lt1 : ∀ x ∈ p1, x.block < W.heap.size := by obtain ⟨m, hm⟩ := k1; exact DataW.trod_lt m _ _ _ hm
  obtain ⟨I1, w1, b1⟩ := open_inst (hval 1 26 v1 rfl rfl) h1
  clear hA0 hval0
  refine (walk I0 v0 I1 v1 W w0 b0 w1 b1 (words_of_laid hL)).mono fun e W' ⟨he, bel⟩ => ?_
  subst he
  exact ⟨_, rfl, _, _, _, [], _, [], hW', trodAll_mk1 (shut_bool Tryd.underlying4 _), (trodAll_cons_mk (Below.trod laidOut (by kernel_rfl) (of_decide_eq_true (by kernel_rfl)) k0 bel lt0) (trodAll_cons_mk (Below.trod laidOut (by kernel_rfl) (of_decide_eq_true (by kernel_rfl)) k1 bel lt1) trodAll_mk0)), rfl, bel.frame _, fun h => by cases h⟩

theorem over : Rows.instEqualRow.holds Tryd.pinned (OpenSpec.ofChange Rows.instEqualSpec) :=
  OpenClaim.holds_of_wide 4 Tryd.f4 rfl rfl rfl rfl rfl rfl rfl ⟨rfl, rfl, rfl, rfl, rfl⟩ rfl rfl rfl rfl rfl (by kernel_rfl) Tryd.func4 (by kernel_rfl)
    (of_decide_eq_true (by kernel_rfl)) (by unfold Func.isWrapper; first | (rw [if_pos (by decide +kernel)]; kernel_rfl) | (rw [if_neg (by decide +kernel)]; exact ⟨rfl, rfl⟩))
    (fun os started H enc _ => lifted os started H enc)

theorem card : Rows.InstEqualCardSaid :=
  Claim7.holds_tied_plain_at .later [] [.data] true _ false
    over (fun _ h => by cases h) (by kernel_rfl) (fun _ h => by cases h) instEqual_row_tie rfl ⟨rfl, rfl⟩ (by kernel_rfl) rfl
    (fun f fn hf hfn => by
      obtain rfl : f = 4 := Option.some.inj ((show Tryd.prog.funcNamed Rows.instEqualRow.func = some 4 by kernel_rfl).symm.trans hf) |>.symm
      obtain rfl : fn = Tryd.f4 := (Option.some.inj (Tryd.func4.symm.trans hfn)).symm
      exact ⟨by kernel_rfl, fun j t ht => by
        rw [Tryd.params4] at ht
        have hm : t ∈ [26, 26] := by simpa using Array.mem_of_getElem? ht
        have hall : ([26, 26].all fun u => !Tryd.prog.wantsStandIn u) = true := by kernel_rfl
        exact (show Tryd.prog.wantsStandIn t = false by simpa using List.all_eq_true.1 hall t hm)⟩)
    (by kernel_rfl)

end Go.Proofs.YtoaibbcdkbddeaaDoor.instEqual
namespace Go.Proofs.YtoaibbcdkbddeaaDoor
theorem instEqual_holds : Rows.InstEqualCardSaid := instEqual.card
#print axioms instEqual_holds
end Go.Proofs.YtoaibbcdkbddeaaDoor
