/-
  What the document's own answers of layer 2 (package secateurref02) do, second part: Cmp, Whole, Add, Mul.
-/
import Derived.Test.YtjaabjehegcnaaaDoorRefWalks
import Derived.Test.YtjaabjehegcnaaaDoorRatioMath2
namespace Go.Proofs.YtjaabjehegcnaaaDoor
set_option maxRecDepth 100000
open Go.RowKit

theorem rrcmp_any (a b c d : Int) (ha : I64 a) (hb : I64 b) (hc : I64 c) (hd : I64 d) (w : World) :
    Calls Tryd.prog 19 #[.int .i64 a, .int .i64 b, .int .i64 c, .int .i64 d] w fun e w' => e = .returned (.int .i64 (rcm a b c d)) ∧ Below w.heap.size w w' := by
  have G1 := rgood_any a b ha hb
  have G2 := rgood_any c d hc hd
  have X := rcross_any a b c d ha hb hc hd
  obtain ⟨p, hp⟩ : ∃ p, goodB a b = p := ⟨_, rfl⟩
  obtain ⟨q, hq⟩ : ∃ q, goodB c d = q := ⟨_, rfl⟩
  have e1 : rcm a b c d = if p = true ∧ q = true then cmp3 (a * d) (c * b) else 0 := by unfold rcm; rw [hp, hq]
  rw [hp] at G1
  rw [hq] at G2
  rw [e1]
  clear e1 hp hq
  cases p <;> cases q
  case true.true =>
    go_enter Tryd.func19, Tryd.ntmps19
    go_wp2_with fail
    with_reducible refine (G1 _).mono ?_
    rintro e w1 ⟨rfl, b1⟩
    go_wp2_with fail
    with_reducible refine (G2 _).mono ?_
    rintro e w2 ⟨rfl, b2⟩
    go_wp2_with fail
    with_reducible refine (X _).mono ?_
    rintro e w3 ⟨rfl, b3⟩
    go_wp2
    go_ret
    exact ⟨by simp, on (on b1 b2) b3⟩
  all_goals
    go_enter Tryd.func19, Tryd.ntmps19
    go_wp2_with fail
    with_reducible refine (G1 _).mono ?_
    rintro e w1 ⟨rfl, b1⟩
    go_wp2_with fail
    with_reducible refine (G2 _).mono ?_
    rintro e w2 ⟨rfl, b2⟩
    go_wp2
    go_ret
    exact ⟨by simp, on b1 b2⟩

theorem rwhole_any (n d : Int) (up : Bool) (hn : I64 n) (hd : I64 d) (w : World) :
    Calls Tryd.prog 21 #[.int .i64 n, .int .i64 d, .bool up] w fun e w' => e = .returned (.int .i64 (if up = true then cei n d else flo n d)) ∧ Below w.heap.size w w' := by
  have G := rgood_any n d hn hd
  by_cases hg : goodB n d = true
  · rw [hg] at G
    have hp := (good_out hg).1
    have F := rfloor_any n d up hn hd (by omega)
    have hi : I64 (if up = true then cdiv n d else n.fdiv d) := by
      cases up
      · exact fdiv_in (div_of_pos hp) hn
      · exact cdiv_in hp hn
    rw [(fit_yes hi).1, (fit_yes hi).2] at F
    have e1 : (if up = true then cei n d else flo n d) = (if up = true then cdiv n d else n.fdiv d) := by unfold cei flo; rw [if_pos hg, if_pos hg]
    rw [e1]
    obtain ⟨R, hR⟩ : ∃ R, (if up = true then cdiv n d else n.fdiv d) = R := ⟨_, rfl⟩
    rw [hR] at F ⊢
    clear e1 hR hi hg
    go_enter Tryd.func21, Tryd.ntmps21
    go_wp2_with fail
    with_reducible refine (G _).mono ?_
    rintro e w1 ⟨rfl, b1⟩
    go_wp2_with fail
    with_reducible refine (F _).mono ?_
    rintro e w2 ⟨rfl, b2⟩
    go_wp2
    go_ret
    exact ⟨rfl, on b1 b2⟩
  · have e1 : (if up = true then cei n d else flo n d) = 0 := by unfold cei flo; rw [if_neg hg, if_neg hg]; simp
    have hg' : goodB n d = false := by simpa using hg
    rw [hg'] at G
    rw [e1]
    clear e1 hg hg'
    go_enter Tryd.func21, Tryd.ntmps21
    go_wp2_with fail
    with_reducible refine (G _).mono ?_
    rintro e w1 ⟨rfl, b1⟩
    go_wp2
    go_ret
    exact ⟨rfl, b1⟩

theorem rshort_rep (z : Int) (u : Value) (w : World) (h : Rep w u z) :
    Calls Tryd.prog 52 #[u] w fun e w' => e = .returned (.tuple #[.int .i64 (fit z), .bool (fitB z)]) ∧ Below w.heap.size w w' := by
  have S := fun W (hW : Rep W u z) => short_rep z u W hW
  obtain ⟨p, x, l, k, rfl, R⟩ := h.form
  clear h
  have S' := S _ (R.below (one_below w (.cells #[.bool p, .slice x l k] 59)))
  have HS := Lib.hid S'
  clear S S' R
  go_enter Tryd.func52, Tryd.ntmps52
  go_wp2_with fail
  with_reducible refine HS.out.mono ?_
  rintro e w1 ⟨rfl, b1⟩
  go_wp2
  go_ret2
  exact ⟨rfl, on (one_below w _) b1⟩

set_option maxHeartbeats 8000000 in
theorem rradd_main (a b c d p q g : Int) (ha : I64 a) (hb : I64 b) (hc : I64 c) (G1 : ∀ w, Calls Tryd.prog 15 #[.int .i64 a, .int .i64 b] w fun e w' => e = .returned (.bool true) ∧ Below w.heap.size w w') (G2 : ∀ w, Calls Tryd.prog 15 #[.int .i64 c, .int .i64 d] w fun e w' => e = .returned (.bool true) ∧ Below w.heap.size w w')
    (G : ∀ w, Calls Tryd.prog 38 #[.int .i64 b, .int .i64 d] w fun e w' => e = .returned (.tuple #[.int .i64 g, .bool true]) ∧ Below w.heap.size w w') (hg : 0 < g) (t1 : b.tdiv g = p) (t2 : d.tdiv g = q) (ip : I64 p) (iq : I64 q)
    (h1 h2 h3 h4 : Bool) (e1 : fitB (a * q) = h1) (e2 : fitB (c * p) = h2) (e3 : fitB (a * q + c * p) = h3) (e4 : fitB (b * q) = h4) (u v : Int) (e5 : fit (a * q + c * p) = u) (e6 : fit (b * q) = v) (w : World) :
    Calls Tryd.prog 24 #[.int .i64 a, .int .i64 b, .int .i64 c, .int .i64 d] w fun e w' => e = .returned (.tuple #[.int .i64 (if (h1 && h2 && h3 && h4) = true then mkN u v else 0), .int .i64 (if (h1 && h2 && h3 && h4) = true then mkD u v else 0), .bool (h1 && h2 && h3 && h4 && mkB u v)]) ∧ Below w.heap.size w w' := by
  have hgne : ¬ g = 0 := by omega
  have W1 := wrap_in ip
  have W2 := wrap_in iq
  have fa := Lib.hid (few_i64 ha)
  have fb := Lib.hid (few_i64 hb)
  have fc := Lib.hid (few_i64 hc)
  have fp := Lib.hid (few_i64 ip)
  have fq := Lib.hid (few_i64 iq)
  have fx := Lib.hid (few_mul ha iq)
  have fy := Lib.hid (few_mul hc ip)
  have S1 := Lib.hid (fun U W hW => rshort_rep (a * q) U W hW)
  have S2 := Lib.hid (fun U W hW => rshort_rep (c * p) U W hW)
  have S3 := Lib.hid (fun U W hW => rshort_rep (a * q + c * p) U W hW)
  have S4 := Lib.hid (fun U W hW => rshort_rep (b * q) U W hW)
  rw [e1] at S1
  rw [e2] at S2
  rw [e3, e5] at S3
  rw [e4, e6] at S4
  have iu : I64 u := by
    rw [← e5]; unfold fit
    split
    · rename_i h; exact fitB_iff.1 h
    · unfold I64; omega
  have iv : I64 v := by
    rw [← e6]; unfold fit
    split
    · rename_i h; exact fitB_iff.1 h
    · unfold I64; omega
  have M := rmake_any u v iu iv
  unfold rmkV at M
  obtain ⟨f1, hf1⟩ : ∃ f, fit (a * q) = f := ⟨_, rfl⟩
  obtain ⟨f2, hf2⟩ : ∃ f, fit (c * p) = f := ⟨_, rfl⟩
  rw [hf1] at S1
  rw [hf2] at S2
  clear e1 e2 e3 e4 e5 e6 hf1 hf2
  go_enter Tryd.func24, Tryd.ntmps24
  go_wp2_with fail
  with_reducible refine (G1 _).mono ?_
  rintro e w1 ⟨rfl, b1⟩
  go_wp2_with fail
  with_reducible refine (G2 _).mono ?_
  rintro e w2 ⟨rfl, b2⟩
  go_wp2_with fail
  with_reducible refine (G _).mono ?_
  rintro e w3 ⟨rfl, b3⟩
  have B3 : Below w.heap.size w w3 := on (on b1 b2) b3
  clear b1 b2 b3
  go_wp2_with fail
  with_reducible refine (of_any a ha _).mono ?_
  rintro e w4 ⟨⟨vA, rfl, QA⟩, b4⟩
  have B4 : Below w.heap.size w w4 := on B3 b4
  clear b4 B3
  obtain ⟨pA, xA, lA, kA, rfl, RA⟩ := QA.form
  go_wp2_with fail
  with_reducible refine (of_any b hb _).mono ?_
  rintro e w5 ⟨⟨vB, rfl, QB⟩, b5⟩
  have B5 : Below w.heap.size w w5 := on (on B4 (one_below w4 (.cells #[.bool pA, .slice xA lA kA] 59))) b5
  have HA5 := (held_new w4 pA xA lA kA).next b5
  have RA5 := (RA.below (one_below w4 (.cells #[.bool pA, .slice xA lA kA] 59))).below b5
  clear RA b5 B4
  obtain ⟨cA, dA, sA⟩ := HA5
  have RA := RA5
  clear RA5
  obtain ⟨pB, xB, lB, kB, rfl, RB⟩ := QB.form
  go_wp2_with fail
  with_reducible refine (of_any c hc _).mono ?_
  rintro e w6 ⟨⟨vC, rfl, QC⟩, b6⟩
  have B6 : Below w.heap.size w w6 := on (on B5 (one_below w5 (.cells #[.bool pB, .slice xB lB kB] 59))) b6
  have HA6 := ((Held.mk cA dA sA).next (one_below w5 (.cells #[.bool pB, .slice xB lB kB] 59))).next b6
  have HB6 := (held_new w5 pB xB lB kB).next b6
  have RA6 := (RA.below (one_below w5 (.cells #[.bool pB, .slice xB lB kB] 59))).below b6
  have RB6 := (RB.below (one_below w5 (.cells #[.bool pB, .slice xB lB kB] 59))).below b6
  clear cA dA sA RA RB b6 B5
  obtain ⟨cA, dA, sA⟩ := HA6
  obtain ⟨cB, dB, sB⟩ := HB6
  have RA := RA6
  clear RA6
  have RB := RB6
  clear RB6
  obtain ⟨pC, xC, lC, kC, rfl, RC⟩ := QC.form
  go_wp2_with fail
  with_reducible refine (of_any p ip _).mono ?_
  rintro e w7 ⟨⟨vP, rfl, QP⟩, b7⟩
  have B7 : Below w.heap.size w w7 := on (on B6 (one_below w6 (.cells #[.bool pC, .slice xC lC kC] 59))) b7
  have HA7 := ((Held.mk cA dA sA).next (one_below w6 (.cells #[.bool pC, .slice xC lC kC] 59))).next b7
  have HB7 := ((Held.mk cB dB sB).next (one_below w6 (.cells #[.bool pC, .slice xC lC kC] 59))).next b7
  have HC7 := (held_new w6 pC xC lC kC).next b7
  have RA7 := (RA.below (one_below w6 (.cells #[.bool pC, .slice xC lC kC] 59))).below b7
  have RB7 := (RB.below (one_below w6 (.cells #[.bool pC, .slice xC lC kC] 59))).below b7
  have RC7 := (RC.below (one_below w6 (.cells #[.bool pC, .slice xC lC kC] 59))).below b7
  clear cA dA sA cB dB sB RA RB RC b7 B6
  obtain ⟨cA, dA, sA⟩ := HA7
  obtain ⟨cB, dB, sB⟩ := HB7
  obtain ⟨cC, dC, sC⟩ := HC7
  have RA := RA7
  clear RA7
  have RB := RB7
  clear RB7
  have RC := RC7
  clear RC7
  obtain ⟨pP, xP, lP, kP, rfl, RP⟩ := QP.form
  go_wp2_with fail
  with_reducible refine (of_any q iq _).mono ?_
  rintro e w8 ⟨⟨vQ, rfl, QQ⟩, b8⟩
  have B8 : Below w.heap.size w w8 := on (on B7 (one_below w7 (.cells #[.bool pP, .slice xP lP kP] 59))) b8
  have HA8 := ((Held.mk cA dA sA).next (one_below w7 (.cells #[.bool pP, .slice xP lP kP] 59))).next b8
  have HB8 := ((Held.mk cB dB sB).next (one_below w7 (.cells #[.bool pP, .slice xP lP kP] 59))).next b8
  have HC8 := ((Held.mk cC dC sC).next (one_below w7 (.cells #[.bool pP, .slice xP lP kP] 59))).next b8
  have HP8 := (held_new w7 pP xP lP kP).next b8
  have RA8 := (RA.below (one_below w7 (.cells #[.bool pP, .slice xP lP kP] 59))).below b8
  have RB8 := (RB.below (one_below w7 (.cells #[.bool pP, .slice xP lP kP] 59))).below b8
  have RC8 := (RC.below (one_below w7 (.cells #[.bool pP, .slice xP lP kP] 59))).below b8
  have RP8 := (RP.below (one_below w7 (.cells #[.bool pP, .slice xP lP kP] 59))).below b8
  clear cA dA sA cB dB sB cC dC sC RA RB RC RP b8 B7
  obtain ⟨cA, dA, sA⟩ := HA8
  obtain ⟨cB, dB, sB⟩ := HB8
  obtain ⟨cC, dC, sC⟩ := HC8
  obtain ⟨cP, dP, sP⟩ := HP8
  have RA := RA8
  clear RA8
  have RB := RB8
  clear RB8
  have RC := RC8
  clear RC8
  have RP := RP8
  clear RP8
  obtain ⟨pQ, xQ, lQ, kQ, rfl, RQ⟩ := QQ.form
  go_wp2_with fail
  with_reducible refine (rmul_rep a q _ _ _ (RA.below (one_below w8 (.cells #[.bool pQ, .slice xQ lQ kQ] 59))) (RQ.below (one_below w8 (.cells #[.bool pQ, .slice xQ lQ kQ] 59))) fa.out fq.out).mono ?_
  rintro e w9 ⟨⟨vX, rfl, QX⟩, b9⟩
  have B9 : Below w.heap.size w w9 := on (on B8 (one_below w8 (.cells #[.bool pQ, .slice xQ lQ kQ] 59))) b9
  have HA9 := ((Held.mk cA dA sA).next (one_below w8 (.cells #[.bool pQ, .slice xQ lQ kQ] 59))).next b9
  have HB9 := ((Held.mk cB dB sB).next (one_below w8 (.cells #[.bool pQ, .slice xQ lQ kQ] 59))).next b9
  have HC9 := ((Held.mk cC dC sC).next (one_below w8 (.cells #[.bool pQ, .slice xQ lQ kQ] 59))).next b9
  have HP9 := ((Held.mk cP dP sP).next (one_below w8 (.cells #[.bool pQ, .slice xQ lQ kQ] 59))).next b9
  have HQ9 := (held_new w8 pQ xQ lQ kQ).next b9
  have RA9 := (RA.below (one_below w8 (.cells #[.bool pQ, .slice xQ lQ kQ] 59))).below b9
  have RB9 := (RB.below (one_below w8 (.cells #[.bool pQ, .slice xQ lQ kQ] 59))).below b9
  have RC9 := (RC.below (one_below w8 (.cells #[.bool pQ, .slice xQ lQ kQ] 59))).below b9
  have RP9 := (RP.below (one_below w8 (.cells #[.bool pQ, .slice xQ lQ kQ] 59))).below b9
  have RQ9 := (RQ.below (one_below w8 (.cells #[.bool pQ, .slice xQ lQ kQ] 59))).below b9
  clear cA dA sA cB dB sB cC dC sC cP dP sP RA RB RC RP RQ b9 B8
  obtain ⟨cA, dA, sA⟩ := HA9
  obtain ⟨cB, dB, sB⟩ := HB9
  obtain ⟨cC, dC, sC⟩ := HC9
  obtain ⟨cP, dP, sP⟩ := HP9
  obtain ⟨cQ, dQ, sQ⟩ := HQ9
  have RA := RA9
  clear RA9
  have RB := RB9
  clear RB9
  have RC := RC9
  clear RC9
  have RP := RP9
  clear RP9
  have RQ := RQ9
  clear RQ9
  obtain ⟨pX, xX, lX, kX, rfl, RX⟩ := QX.form
  go_wp2_with fail
  with_reducible refine (rmul_rep c p _ _ _ (RC.below (one_below w9 (.cells #[.bool pX, .slice xX lX kX] 59))) (RP.below (one_below w9 (.cells #[.bool pX, .slice xX lX kX] 59))) fc.out fp.out).mono ?_
  rintro e w10 ⟨⟨vY, rfl, QY⟩, b10⟩
  have B10 : Below w.heap.size w w10 := on (on B9 (one_below w9 (.cells #[.bool pX, .slice xX lX kX] 59))) b10
  have HA10 := ((Held.mk cA dA sA).next (one_below w9 (.cells #[.bool pX, .slice xX lX kX] 59))).next b10
  have HB10 := ((Held.mk cB dB sB).next (one_below w9 (.cells #[.bool pX, .slice xX lX kX] 59))).next b10
  have HC10 := ((Held.mk cC dC sC).next (one_below w9 (.cells #[.bool pX, .slice xX lX kX] 59))).next b10
  have HP10 := ((Held.mk cP dP sP).next (one_below w9 (.cells #[.bool pX, .slice xX lX kX] 59))).next b10
  have HQ10 := ((Held.mk cQ dQ sQ).next (one_below w9 (.cells #[.bool pX, .slice xX lX kX] 59))).next b10
  have HX10 := (held_new w9 pX xX lX kX).next b10
  have RA10 := (RA.below (one_below w9 (.cells #[.bool pX, .slice xX lX kX] 59))).below b10
  have RB10 := (RB.below (one_below w9 (.cells #[.bool pX, .slice xX lX kX] 59))).below b10
  have RC10 := (RC.below (one_below w9 (.cells #[.bool pX, .slice xX lX kX] 59))).below b10
  have RP10 := (RP.below (one_below w9 (.cells #[.bool pX, .slice xX lX kX] 59))).below b10
  have RQ10 := (RQ.below (one_below w9 (.cells #[.bool pX, .slice xX lX kX] 59))).below b10
  have RX10 := (RX.below (one_below w9 (.cells #[.bool pX, .slice xX lX kX] 59))).below b10
  clear cA dA sA cB dB sB cC dC sC cP dP sP cQ dQ sQ RA RB RC RP RQ RX b10 B9
  obtain ⟨cA, dA, sA⟩ := HA10
  obtain ⟨cB, dB, sB⟩ := HB10
  obtain ⟨cC, dC, sC⟩ := HC10
  obtain ⟨cP, dP, sP⟩ := HP10
  obtain ⟨cQ, dQ, sQ⟩ := HQ10
  obtain ⟨cX, dX, sX⟩ := HX10
  have RA := RA10
  clear RA10
  have RB := RB10
  clear RB10
  have RC := RC10
  clear RC10
  have RP := RP10
  clear RP10
  have RQ := RQ10
  clear RQ10
  have RX := RX10
  clear RX10
  obtain ⟨pY, xY, lY, kY, rfl, RY⟩ := QY.form
  go_wp2_with fail
  with_reducible refine (radd_rep (a * q) (c * p) _ _ _ (RX.below (one_below w10 (.cells #[.bool pY, .slice xY lY kY] 59))) (RY.below (one_below w10 (.cells #[.bool pY, .slice xY lY kY] 59))) fx.out fy.out).mono ?_
  rintro e w11 ⟨⟨vS, rfl, QS⟩, b11⟩
  have B11 : Below w.heap.size w w11 := on (on B10 (one_below w10 (.cells #[.bool pY, .slice xY lY kY] 59))) b11
  have HA11 := ((Held.mk cA dA sA).next (one_below w10 (.cells #[.bool pY, .slice xY lY kY] 59))).next b11
  have HB11 := ((Held.mk cB dB sB).next (one_below w10 (.cells #[.bool pY, .slice xY lY kY] 59))).next b11
  have HC11 := ((Held.mk cC dC sC).next (one_below w10 (.cells #[.bool pY, .slice xY lY kY] 59))).next b11
  have HP11 := ((Held.mk cP dP sP).next (one_below w10 (.cells #[.bool pY, .slice xY lY kY] 59))).next b11
  have HQ11 := ((Held.mk cQ dQ sQ).next (one_below w10 (.cells #[.bool pY, .slice xY lY kY] 59))).next b11
  have HX11 := ((Held.mk cX dX sX).next (one_below w10 (.cells #[.bool pY, .slice xY lY kY] 59))).next b11
  have HY11 := (held_new w10 pY xY lY kY).next b11
  have RA11 := (RA.below (one_below w10 (.cells #[.bool pY, .slice xY lY kY] 59))).below b11
  have RB11 := (RB.below (one_below w10 (.cells #[.bool pY, .slice xY lY kY] 59))).below b11
  have RC11 := (RC.below (one_below w10 (.cells #[.bool pY, .slice xY lY kY] 59))).below b11
  have RP11 := (RP.below (one_below w10 (.cells #[.bool pY, .slice xY lY kY] 59))).below b11
  have RQ11 := (RQ.below (one_below w10 (.cells #[.bool pY, .slice xY lY kY] 59))).below b11
  have RX11 := (RX.below (one_below w10 (.cells #[.bool pY, .slice xY lY kY] 59))).below b11
  have RY11 := (RY.below (one_below w10 (.cells #[.bool pY, .slice xY lY kY] 59))).below b11
  clear cA dA sA cB dB sB cC dC sC cP dP sP cQ dQ sQ cX dX sX RA RB RC RP RQ RX RY b11 B10
  obtain ⟨cA, dA, sA⟩ := HA11
  obtain ⟨cB, dB, sB⟩ := HB11
  obtain ⟨cC, dC, sC⟩ := HC11
  obtain ⟨cP, dP, sP⟩ := HP11
  obtain ⟨cQ, dQ, sQ⟩ := HQ11
  obtain ⟨cX, dX, sX⟩ := HX11
  obtain ⟨cY, dY, sY⟩ := HY11
  have RA := RA11
  clear RA11
  have RB := RB11
  clear RB11
  have RC := RC11
  clear RC11
  have RP := RP11
  clear RP11
  have RQ := RQ11
  clear RQ11
  have RX := RX11
  clear RX11
  have RY := RY11
  clear RY11
  obtain ⟨pS, xS, lS, kS, rfl, RS⟩ := QS.form
  go_wp2_with fail
  with_reducible refine (rmul_rep b q _ _ _ (RB.below (one_below w11 (.cells #[.bool pS, .slice xS lS kS] 59))) (RQ.below (one_below w11 (.cells #[.bool pS, .slice xS lS kS] 59))) fb.out fq.out).mono ?_
  rintro e w12 ⟨⟨vM, rfl, QM⟩, b12⟩
  have B12 : Below w.heap.size w w12 := on (on B11 (one_below w11 (.cells #[.bool pS, .slice xS lS kS] 59))) b12
  have HA12 := ((Held.mk cA dA sA).next (one_below w11 (.cells #[.bool pS, .slice xS lS kS] 59))).next b12
  have HB12 := ((Held.mk cB dB sB).next (one_below w11 (.cells #[.bool pS, .slice xS lS kS] 59))).next b12
  have HC12 := ((Held.mk cC dC sC).next (one_below w11 (.cells #[.bool pS, .slice xS lS kS] 59))).next b12
  have HP12 := ((Held.mk cP dP sP).next (one_below w11 (.cells #[.bool pS, .slice xS lS kS] 59))).next b12
  have HQ12 := ((Held.mk cQ dQ sQ).next (one_below w11 (.cells #[.bool pS, .slice xS lS kS] 59))).next b12
  have HX12 := ((Held.mk cX dX sX).next (one_below w11 (.cells #[.bool pS, .slice xS lS kS] 59))).next b12
  have HY12 := ((Held.mk cY dY sY).next (one_below w11 (.cells #[.bool pS, .slice xS lS kS] 59))).next b12
  have HS12 := (held_new w11 pS xS lS kS).next b12
  have RA12 := (RA.below (one_below w11 (.cells #[.bool pS, .slice xS lS kS] 59))).below b12
  have RB12 := (RB.below (one_below w11 (.cells #[.bool pS, .slice xS lS kS] 59))).below b12
  have RC12 := (RC.below (one_below w11 (.cells #[.bool pS, .slice xS lS kS] 59))).below b12
  have RP12 := (RP.below (one_below w11 (.cells #[.bool pS, .slice xS lS kS] 59))).below b12
  have RQ12 := (RQ.below (one_below w11 (.cells #[.bool pS, .slice xS lS kS] 59))).below b12
  have RX12 := (RX.below (one_below w11 (.cells #[.bool pS, .slice xS lS kS] 59))).below b12
  have RY12 := (RY.below (one_below w11 (.cells #[.bool pS, .slice xS lS kS] 59))).below b12
  have RS12 := (RS.below (one_below w11 (.cells #[.bool pS, .slice xS lS kS] 59))).below b12
  clear cA dA sA cB dB sB cC dC sC cP dP sP cQ dQ sQ cX dX sX cY dY sY RA RB RC RP RQ RX RY RS b12 B11
  obtain ⟨cA, dA, sA⟩ := HA12
  obtain ⟨cB, dB, sB⟩ := HB12
  obtain ⟨cC, dC, sC⟩ := HC12
  obtain ⟨cP, dP, sP⟩ := HP12
  obtain ⟨cQ, dQ, sQ⟩ := HQ12
  obtain ⟨cX, dX, sX⟩ := HX12
  obtain ⟨cY, dY, sY⟩ := HY12
  obtain ⟨cS, dS, sS⟩ := HS12
  have RA := RA12
  clear RA12
  have RB := RB12
  clear RB12
  have RC := RC12
  clear RC12
  have RP := RP12
  clear RP12
  have RQ := RQ12
  clear RQ12
  have RX := RX12
  clear RX12
  have RY := RY12
  clear RY12
  have RS := RS12
  clear RS12
  obtain ⟨pM, xM, lM, kM, rfl, RM⟩ := QM.form
  go_wp2_with fail
  with_reducible refine (S1.out _ _ (RX.below (one_below w12 (.cells #[.bool pM, .slice xM lM kM] 59)))).mono ?_
  rintro e w13 ⟨rfl, b13⟩
  have B13 : Below w.heap.size w w13 := on (on B12 (one_below w12 (.cells #[.bool pM, .slice xM lM kM] 59))) b13
  have HA13 := ((Held.mk cA dA sA).next (one_below w12 (.cells #[.bool pM, .slice xM lM kM] 59))).next b13
  have HB13 := ((Held.mk cB dB sB).next (one_below w12 (.cells #[.bool pM, .slice xM lM kM] 59))).next b13
  have HC13 := ((Held.mk cC dC sC).next (one_below w12 (.cells #[.bool pM, .slice xM lM kM] 59))).next b13
  have HP13 := ((Held.mk cP dP sP).next (one_below w12 (.cells #[.bool pM, .slice xM lM kM] 59))).next b13
  have HQ13 := ((Held.mk cQ dQ sQ).next (one_below w12 (.cells #[.bool pM, .slice xM lM kM] 59))).next b13
  have HX13 := ((Held.mk cX dX sX).next (one_below w12 (.cells #[.bool pM, .slice xM lM kM] 59))).next b13
  have HY13 := ((Held.mk cY dY sY).next (one_below w12 (.cells #[.bool pM, .slice xM lM kM] 59))).next b13
  have HS13 := ((Held.mk cS dS sS).next (one_below w12 (.cells #[.bool pM, .slice xM lM kM] 59))).next b13
  have HM13 := (held_new w12 pM xM lM kM).next b13
  have RA13 := (RA.below (one_below w12 (.cells #[.bool pM, .slice xM lM kM] 59))).below b13
  have RB13 := (RB.below (one_below w12 (.cells #[.bool pM, .slice xM lM kM] 59))).below b13
  have RC13 := (RC.below (one_below w12 (.cells #[.bool pM, .slice xM lM kM] 59))).below b13
  have RP13 := (RP.below (one_below w12 (.cells #[.bool pM, .slice xM lM kM] 59))).below b13
  have RQ13 := (RQ.below (one_below w12 (.cells #[.bool pM, .slice xM lM kM] 59))).below b13
  have RX13 := (RX.below (one_below w12 (.cells #[.bool pM, .slice xM lM kM] 59))).below b13
  have RY13 := (RY.below (one_below w12 (.cells #[.bool pM, .slice xM lM kM] 59))).below b13
  have RS13 := (RS.below (one_below w12 (.cells #[.bool pM, .slice xM lM kM] 59))).below b13
  have RM13 := (RM.below (one_below w12 (.cells #[.bool pM, .slice xM lM kM] 59))).below b13
  clear cA dA sA cB dB sB cC dC sC cP dP sP cQ dQ sQ cX dX sX cY dY sY cS dS sS RA RB RC RP RQ RX RY RS RM b13 B12
  obtain ⟨cA, dA, sA⟩ := HA13
  obtain ⟨cB, dB, sB⟩ := HB13
  obtain ⟨cC, dC, sC⟩ := HC13
  obtain ⟨cP, dP, sP⟩ := HP13
  obtain ⟨cQ, dQ, sQ⟩ := HQ13
  obtain ⟨cX, dX, sX⟩ := HX13
  obtain ⟨cY, dY, sY⟩ := HY13
  obtain ⟨cS, dS, sS⟩ := HS13
  obtain ⟨cM, dM, sM⟩ := HM13
  have RA := RA13
  clear RA13
  have RB := RB13
  clear RB13
  have RC := RC13
  clear RC13
  have RP := RP13
  clear RP13
  have RQ := RQ13
  clear RQ13
  have RX := RX13
  clear RX13
  have RY := RY13
  clear RY13
  have RS := RS13
  clear RS13
  have RM := RM13
  clear RM13
  go_wp2_with fail
  with_reducible refine (S2.out _ _ RY).mono ?_
  rintro e w14 ⟨rfl, b14⟩
  have B14 : Below w.heap.size w w14 := on B13 b14
  have HA14 := (Held.mk cA dA sA).next b14
  have HB14 := (Held.mk cB dB sB).next b14
  have HC14 := (Held.mk cC dC sC).next b14
  have HP14 := (Held.mk cP dP sP).next b14
  have HQ14 := (Held.mk cQ dQ sQ).next b14
  have HX14 := (Held.mk cX dX sX).next b14
  have HY14 := (Held.mk cY dY sY).next b14
  have HS14 := (Held.mk cS dS sS).next b14
  have HM14 := (Held.mk cM dM sM).next b14
  have RA14 := RA.below b14
  have RB14 := RB.below b14
  have RC14 := RC.below b14
  have RP14 := RP.below b14
  have RQ14 := RQ.below b14
  have RX14 := RX.below b14
  have RY14 := RY.below b14
  have RS14 := RS.below b14
  have RM14 := RM.below b14
  clear cA dA sA cB dB sB cC dC sC cP dP sP cQ dQ sQ cX dX sX cY dY sY cS dS sS cM dM sM RA RB RC RP RQ RX RY RS RM b14 B13
  obtain ⟨cA, dA, sA⟩ := HA14
  obtain ⟨cB, dB, sB⟩ := HB14
  obtain ⟨cC, dC, sC⟩ := HC14
  obtain ⟨cP, dP, sP⟩ := HP14
  obtain ⟨cQ, dQ, sQ⟩ := HQ14
  obtain ⟨cX, dX, sX⟩ := HX14
  obtain ⟨cY, dY, sY⟩ := HY14
  obtain ⟨cS, dS, sS⟩ := HS14
  obtain ⟨cM, dM, sM⟩ := HM14
  have RA := RA14
  clear RA14
  have RB := RB14
  clear RB14
  have RC := RC14
  clear RC14
  have RP := RP14
  clear RP14
  have RQ := RQ14
  clear RQ14
  have RX := RX14
  clear RX14
  have RY := RY14
  clear RY14
  have RS := RS14
  clear RS14
  have RM := RM14
  clear RM14
  go_wp2_with fail
  with_reducible refine (S3.out _ _ RS).mono ?_
  rintro e w15 ⟨rfl, b15⟩
  have B15 : Below w.heap.size w w15 := on B14 b15
  have HA15 := (Held.mk cA dA sA).next b15
  have HB15 := (Held.mk cB dB sB).next b15
  have HC15 := (Held.mk cC dC sC).next b15
  have HP15 := (Held.mk cP dP sP).next b15
  have HQ15 := (Held.mk cQ dQ sQ).next b15
  have HX15 := (Held.mk cX dX sX).next b15
  have HY15 := (Held.mk cY dY sY).next b15
  have HS15 := (Held.mk cS dS sS).next b15
  have HM15 := (Held.mk cM dM sM).next b15
  have RA15 := RA.below b15
  have RB15 := RB.below b15
  have RC15 := RC.below b15
  have RP15 := RP.below b15
  have RQ15 := RQ.below b15
  have RX15 := RX.below b15
  have RY15 := RY.below b15
  have RS15 := RS.below b15
  have RM15 := RM.below b15
  clear cA dA sA cB dB sB cC dC sC cP dP sP cQ dQ sQ cX dX sX cY dY sY cS dS sS cM dM sM RA RB RC RP RQ RX RY RS RM b15 B14
  obtain ⟨cA, dA, sA⟩ := HA15
  obtain ⟨cB, dB, sB⟩ := HB15
  obtain ⟨cC, dC, sC⟩ := HC15
  obtain ⟨cP, dP, sP⟩ := HP15
  obtain ⟨cQ, dQ, sQ⟩ := HQ15
  obtain ⟨cX, dX, sX⟩ := HX15
  obtain ⟨cY, dY, sY⟩ := HY15
  obtain ⟨cS, dS, sS⟩ := HS15
  obtain ⟨cM, dM, sM⟩ := HM15
  have RA := RA15
  clear RA15
  have RB := RB15
  clear RB15
  have RC := RC15
  clear RC15
  have RP := RP15
  clear RP15
  have RQ := RQ15
  clear RQ15
  have RX := RX15
  clear RX15
  have RY := RY15
  clear RY15
  have RS := RS15
  clear RS15
  have RM := RM15
  clear RM15
  go_wp2_with fail
  with_reducible refine (S4.out _ _ RM).mono ?_
  rintro e w16 ⟨rfl, b16⟩
  have B16 : Below w.heap.size w w16 := on B15 b16
  have HA16 := (Held.mk cA dA sA).next b16
  have HB16 := (Held.mk cB dB sB).next b16
  have HC16 := (Held.mk cC dC sC).next b16
  have HP16 := (Held.mk cP dP sP).next b16
  have HQ16 := (Held.mk cQ dQ sQ).next b16
  have HX16 := (Held.mk cX dX sX).next b16
  have HY16 := (Held.mk cY dY sY).next b16
  have HS16 := (Held.mk cS dS sS).next b16
  have HM16 := (Held.mk cM dM sM).next b16
  have RA16 := RA.below b16
  have RB16 := RB.below b16
  have RC16 := RC.below b16
  have RP16 := RP.below b16
  have RQ16 := RQ.below b16
  have RX16 := RX.below b16
  have RY16 := RY.below b16
  have RS16 := RS.below b16
  have RM16 := RM.below b16
  clear cA dA sA cB dB sB cC dC sC cP dP sP cQ dQ sQ cX dX sX cY dY sY cS dS sS cM dM sM RA RB RC RP RQ RX RY RS RM b16 B15
  obtain ⟨cA, dA, sA⟩ := HA16
  obtain ⟨cB, dB, sB⟩ := HB16
  obtain ⟨cC, dC, sC⟩ := HC16
  obtain ⟨cP, dP, sP⟩ := HP16
  obtain ⟨cQ, dQ, sQ⟩ := HQ16
  obtain ⟨cX, dX, sX⟩ := HX16
  obtain ⟨cY, dY, sY⟩ := HY16
  obtain ⟨cS, dS, sS⟩ := HS16
  obtain ⟨cM, dM, sM⟩ := HM16
  have RA := RA16
  clear RA16
  have RB := RB16
  clear RB16
  have RC := RC16
  clear RC16
  have RP := RP16
  clear RP16
  have RQ := RQ16
  clear RQ16
  have RX := RX16
  clear RX16
  have RY := RY16
  clear RY16
  have RS := RS16
  clear RS16
  have RM := RM16
  clear RM16
  clear cA dA sA RA cB dB sB RB cC dC sC RC cP dP sP RP cQ dQ sQ RQ cX dX sX RX cY dY sY RY cS dS sS RS cM dM sM RM S1 S2 S3 S4 fa fb fc fp fq fx fy
  cases h1 <;> cases h2 <;> cases h3 <;> cases h4
  case true.true.true.true =>
    go_wp2_with fail
    with_reducible refine (M _).mono ?_
    rintro e w' ⟨rfl, b'⟩
    go_wp2
    exact bodyPost_ret (v := .tuple #[.int .i64 (mkN u v), .int .i64 (mkD u v), .bool (mkB u v)]) (by simp [results, Tryd.results24, go_sem]) rfl ⟨by simp, on B16 b'⟩
  all_goals
    go_wp2
    exact bodyPost_ret (v := .tuple #[.int .i64 0, .int .i64 0, .bool false]) (by simp [results, Tryd.results24, go_sem]) rfl ⟨by simp, B16⟩

set_option maxHeartbeats 8000000 in
theorem rrmul_main (a b c d g h p q r s : Int) (G1 : ∀ w, Calls Tryd.prog 15 #[.int .i64 a, .int .i64 b] w fun e w' => e = .returned (.bool true) ∧ Below w.heap.size w w') (G2 : ∀ w, Calls Tryd.prog 15 #[.int .i64 c, .int .i64 d] w fun e w' => e = .returned (.bool true) ∧ Below w.heap.size w w')
    (G : ∀ w, Calls Tryd.prog 38 #[.int .i64 a, .int .i64 d] w fun e w' => e = .returned (.tuple #[.int .i64 g, .bool true]) ∧ Below w.heap.size w w') (hg : 0 < g)
    (H : ∀ w, Calls Tryd.prog 38 #[.int .i64 c, .int .i64 b] w fun e w' => e = .returned (.tuple #[.int .i64 h, .bool true]) ∧ Below w.heap.size w w') (hh : 0 < h)
    (t1 : a.tdiv g = p) (t2 : b.tdiv h = q) (t3 : c.tdiv h = r) (t4 : d.tdiv g = s) (ip : I64 p) (iq : I64 q) (ir : I64 r) (is : I64 s)
    (h1 h2 : Bool) (e1 : fitB (p * r) = h1) (e2 : fitB (q * s) = h2) (u v : Int) (e5 : fit (p * r) = u) (e6 : fit (q * s) = v) (w : World) :
    Calls Tryd.prog 26 #[.int .i64 a, .int .i64 b, .int .i64 c, .int .i64 d] w fun e w' => e = .returned (.tuple #[.int .i64 (if (h1 && h2) = true then mkN u v else 0), .int .i64 (if (h1 && h2) = true then mkD u v else 0), .bool (h1 && h2 && mkB u v)]) ∧ Below w.heap.size w w' := by
  have hgne : ¬ g = 0 := by omega
  have hhne : ¬ h = 0 := by omega
  have W1 := wrap_in ip
  have W2 := wrap_in iq
  have W3 := wrap_in ir
  have W4 := wrap_in is
  have fp := Lib.hid (few_i64 ip)
  have fq := Lib.hid (few_i64 iq)
  have fr := Lib.hid (few_i64 ir)
  have fs := Lib.hid (few_i64 is)
  have S1 := Lib.hid (fun U W hW => rshort_rep (p * r) U W hW)
  have S2 := Lib.hid (fun U W hW => rshort_rep (q * s) U W hW)
  rw [e1, e5] at S1
  rw [e2, e6] at S2
  have iu : I64 u := by
    rw [← e5]; unfold fit
    split
    · rename_i h; exact fitB_iff.1 h
    · unfold I64; omega
  have iv : I64 v := by
    rw [← e6]; unfold fit
    split
    · rename_i h; exact fitB_iff.1 h
    · unfold I64; omega
  have M := rmake_any u v iu iv
  unfold rmkV at M
  clear e1 e2 e5 e6
  go_enter Tryd.func26, Tryd.ntmps26
  go_wp2_with fail
  with_reducible refine (G1 _).mono ?_
  rintro e w1 ⟨rfl, b1⟩
  go_wp2_with fail
  with_reducible refine (G2 _).mono ?_
  rintro e w2 ⟨rfl, b2⟩
  go_wp2_with fail
  with_reducible refine (G _).mono ?_
  rintro e w3 ⟨rfl, b3⟩
  go_wp2_with fail
  with_reducible refine (H _).mono ?_
  rintro e w4 ⟨rfl, b4⟩
  have B4 : Below w.heap.size w w4 := on (on (on b1 b2) b3) b4
  clear b1 b2 b3 b4
  go_wp2_with fail
  with_reducible refine (of_any p ip _).mono ?_
  rintro e w5 ⟨⟨vP, rfl, QP⟩, b5⟩
  have B5 : Below w.heap.size w w5 := on B4 b5
  clear b5 B4
  obtain ⟨pP, xP, lP, kP, rfl, RP⟩ := QP.form
  go_wp2_with fail
  with_reducible refine (of_any q iq _).mono ?_
  rintro e w6 ⟨⟨vQ, rfl, QQ⟩, b6⟩
  have B6 : Below w.heap.size w w6 := on (on B5 (one_below w5 (.cells #[.bool pP, .slice xP lP kP] 59))) b6
  have HP6 := (held_new w5 pP xP lP kP).next b6
  have RP6 := (RP.below (one_below w5 (.cells #[.bool pP, .slice xP lP kP] 59))).below b6
  clear RP b6 B5
  obtain ⟨cP, dP, sP⟩ := HP6
  have RP := RP6
  clear RP6
  obtain ⟨pQ, xQ, lQ, kQ, rfl, RQ⟩ := QQ.form
  go_wp2_with fail
  with_reducible refine (of_any r ir _).mono ?_
  rintro e w7 ⟨⟨vR, rfl, QR⟩, b7⟩
  have B7 : Below w.heap.size w w7 := on (on B6 (one_below w6 (.cells #[.bool pQ, .slice xQ lQ kQ] 59))) b7
  have HP7 := ((Held.mk cP dP sP).next (one_below w6 (.cells #[.bool pQ, .slice xQ lQ kQ] 59))).next b7
  have HQ7 := (held_new w6 pQ xQ lQ kQ).next b7
  have RP7 := (RP.below (one_below w6 (.cells #[.bool pQ, .slice xQ lQ kQ] 59))).below b7
  have RQ7 := (RQ.below (one_below w6 (.cells #[.bool pQ, .slice xQ lQ kQ] 59))).below b7
  clear cP dP sP RP RQ b7 B6
  obtain ⟨cP, dP, sP⟩ := HP7
  obtain ⟨cQ, dQ, sQ⟩ := HQ7
  have RP := RP7
  clear RP7
  have RQ := RQ7
  clear RQ7
  obtain ⟨pR, xR, lR, kR, rfl, RR⟩ := QR.form
  go_wp2_with fail
  with_reducible refine (of_any s is _).mono ?_
  rintro e w8 ⟨⟨vS, rfl, QS⟩, b8⟩
  have B8 : Below w.heap.size w w8 := on (on B7 (one_below w7 (.cells #[.bool pR, .slice xR lR kR] 59))) b8
  have HP8 := ((Held.mk cP dP sP).next (one_below w7 (.cells #[.bool pR, .slice xR lR kR] 59))).next b8
  have HQ8 := ((Held.mk cQ dQ sQ).next (one_below w7 (.cells #[.bool pR, .slice xR lR kR] 59))).next b8
  have HR8 := (held_new w7 pR xR lR kR).next b8
  have RP8 := (RP.below (one_below w7 (.cells #[.bool pR, .slice xR lR kR] 59))).below b8
  have RQ8 := (RQ.below (one_below w7 (.cells #[.bool pR, .slice xR lR kR] 59))).below b8
  have RR8 := (RR.below (one_below w7 (.cells #[.bool pR, .slice xR lR kR] 59))).below b8
  clear cP dP sP cQ dQ sQ RP RQ RR b8 B7
  obtain ⟨cP, dP, sP⟩ := HP8
  obtain ⟨cQ, dQ, sQ⟩ := HQ8
  obtain ⟨cR, dR, sR⟩ := HR8
  have RP := RP8
  clear RP8
  have RQ := RQ8
  clear RQ8
  have RR := RR8
  clear RR8
  obtain ⟨pS, xS, lS, kS, rfl, RS⟩ := QS.form
  go_wp2_with fail
  with_reducible refine (rmul_rep p r _ _ _ (RP.below (one_below w8 (.cells #[.bool pS, .slice xS lS kS] 59))) (RR.below (one_below w8 (.cells #[.bool pS, .slice xS lS kS] 59))) fp.out fr.out).mono ?_
  rintro e w9 ⟨⟨vN, rfl, QN⟩, b9⟩
  have B9 : Below w.heap.size w w9 := on (on B8 (one_below w8 (.cells #[.bool pS, .slice xS lS kS] 59))) b9
  have HP9 := ((Held.mk cP dP sP).next (one_below w8 (.cells #[.bool pS, .slice xS lS kS] 59))).next b9
  have HQ9 := ((Held.mk cQ dQ sQ).next (one_below w8 (.cells #[.bool pS, .slice xS lS kS] 59))).next b9
  have HR9 := ((Held.mk cR dR sR).next (one_below w8 (.cells #[.bool pS, .slice xS lS kS] 59))).next b9
  have HS9 := (held_new w8 pS xS lS kS).next b9
  have RP9 := (RP.below (one_below w8 (.cells #[.bool pS, .slice xS lS kS] 59))).below b9
  have RQ9 := (RQ.below (one_below w8 (.cells #[.bool pS, .slice xS lS kS] 59))).below b9
  have RR9 := (RR.below (one_below w8 (.cells #[.bool pS, .slice xS lS kS] 59))).below b9
  have RS9 := (RS.below (one_below w8 (.cells #[.bool pS, .slice xS lS kS] 59))).below b9
  clear cP dP sP cQ dQ sQ cR dR sR RP RQ RR RS b9 B8
  obtain ⟨cP, dP, sP⟩ := HP9
  obtain ⟨cQ, dQ, sQ⟩ := HQ9
  obtain ⟨cR, dR, sR⟩ := HR9
  obtain ⟨cS, dS, sS⟩ := HS9
  have RP := RP9
  clear RP9
  have RQ := RQ9
  clear RQ9
  have RR := RR9
  clear RR9
  have RS := RS9
  clear RS9
  obtain ⟨pN, xN, lN, kN, rfl, RN⟩ := QN.form
  go_wp2_with fail
  with_reducible refine (rmul_rep q s _ _ _ (RQ.below (one_below w9 (.cells #[.bool pN, .slice xN lN kN] 59))) (RS.below (one_below w9 (.cells #[.bool pN, .slice xN lN kN] 59))) fq.out fs.out).mono ?_
  rintro e w10 ⟨⟨vM, rfl, QM⟩, b10⟩
  have B10 : Below w.heap.size w w10 := on (on B9 (one_below w9 (.cells #[.bool pN, .slice xN lN kN] 59))) b10
  have HP10 := ((Held.mk cP dP sP).next (one_below w9 (.cells #[.bool pN, .slice xN lN kN] 59))).next b10
  have HQ10 := ((Held.mk cQ dQ sQ).next (one_below w9 (.cells #[.bool pN, .slice xN lN kN] 59))).next b10
  have HR10 := ((Held.mk cR dR sR).next (one_below w9 (.cells #[.bool pN, .slice xN lN kN] 59))).next b10
  have HS10 := ((Held.mk cS dS sS).next (one_below w9 (.cells #[.bool pN, .slice xN lN kN] 59))).next b10
  have HN10 := (held_new w9 pN xN lN kN).next b10
  have RP10 := (RP.below (one_below w9 (.cells #[.bool pN, .slice xN lN kN] 59))).below b10
  have RQ10 := (RQ.below (one_below w9 (.cells #[.bool pN, .slice xN lN kN] 59))).below b10
  have RR10 := (RR.below (one_below w9 (.cells #[.bool pN, .slice xN lN kN] 59))).below b10
  have RS10 := (RS.below (one_below w9 (.cells #[.bool pN, .slice xN lN kN] 59))).below b10
  have RN10 := (RN.below (one_below w9 (.cells #[.bool pN, .slice xN lN kN] 59))).below b10
  clear cP dP sP cQ dQ sQ cR dR sR cS dS sS RP RQ RR RS RN b10 B9
  obtain ⟨cP, dP, sP⟩ := HP10
  obtain ⟨cQ, dQ, sQ⟩ := HQ10
  obtain ⟨cR, dR, sR⟩ := HR10
  obtain ⟨cS, dS, sS⟩ := HS10
  obtain ⟨cN, dN, sN⟩ := HN10
  have RP := RP10
  clear RP10
  have RQ := RQ10
  clear RQ10
  have RR := RR10
  clear RR10
  have RS := RS10
  clear RS10
  have RN := RN10
  clear RN10
  obtain ⟨pM, xM, lM, kM, rfl, RM⟩ := QM.form
  go_wp2_with fail
  with_reducible refine (S1.out _ _ (RN.below (one_below w10 (.cells #[.bool pM, .slice xM lM kM] 59)))).mono ?_
  rintro e w11 ⟨rfl, b11⟩
  have B11 : Below w.heap.size w w11 := on (on B10 (one_below w10 (.cells #[.bool pM, .slice xM lM kM] 59))) b11
  have HP11 := ((Held.mk cP dP sP).next (one_below w10 (.cells #[.bool pM, .slice xM lM kM] 59))).next b11
  have HQ11 := ((Held.mk cQ dQ sQ).next (one_below w10 (.cells #[.bool pM, .slice xM lM kM] 59))).next b11
  have HR11 := ((Held.mk cR dR sR).next (one_below w10 (.cells #[.bool pM, .slice xM lM kM] 59))).next b11
  have HS11 := ((Held.mk cS dS sS).next (one_below w10 (.cells #[.bool pM, .slice xM lM kM] 59))).next b11
  have HN11 := ((Held.mk cN dN sN).next (one_below w10 (.cells #[.bool pM, .slice xM lM kM] 59))).next b11
  have HM11 := (held_new w10 pM xM lM kM).next b11
  have RP11 := (RP.below (one_below w10 (.cells #[.bool pM, .slice xM lM kM] 59))).below b11
  have RQ11 := (RQ.below (one_below w10 (.cells #[.bool pM, .slice xM lM kM] 59))).below b11
  have RR11 := (RR.below (one_below w10 (.cells #[.bool pM, .slice xM lM kM] 59))).below b11
  have RS11 := (RS.below (one_below w10 (.cells #[.bool pM, .slice xM lM kM] 59))).below b11
  have RN11 := (RN.below (one_below w10 (.cells #[.bool pM, .slice xM lM kM] 59))).below b11
  have RM11 := (RM.below (one_below w10 (.cells #[.bool pM, .slice xM lM kM] 59))).below b11
  clear cP dP sP cQ dQ sQ cR dR sR cS dS sS cN dN sN RP RQ RR RS RN RM b11 B10
  obtain ⟨cP, dP, sP⟩ := HP11
  obtain ⟨cQ, dQ, sQ⟩ := HQ11
  obtain ⟨cR, dR, sR⟩ := HR11
  obtain ⟨cS, dS, sS⟩ := HS11
  obtain ⟨cN, dN, sN⟩ := HN11
  obtain ⟨cM, dM, sM⟩ := HM11
  have RP := RP11
  clear RP11
  have RQ := RQ11
  clear RQ11
  have RR := RR11
  clear RR11
  have RS := RS11
  clear RS11
  have RN := RN11
  clear RN11
  have RM := RM11
  clear RM11
  go_wp2_with fail
  with_reducible refine (S2.out _ _ RM).mono ?_
  rintro e w12 ⟨rfl, b12⟩
  have B12 : Below w.heap.size w w12 := on B11 b12
  have HP12 := (Held.mk cP dP sP).next b12
  have HQ12 := (Held.mk cQ dQ sQ).next b12
  have HR12 := (Held.mk cR dR sR).next b12
  have HS12 := (Held.mk cS dS sS).next b12
  have HN12 := (Held.mk cN dN sN).next b12
  have HM12 := (Held.mk cM dM sM).next b12
  have RP12 := RP.below b12
  have RQ12 := RQ.below b12
  have RR12 := RR.below b12
  have RS12 := RS.below b12
  have RN12 := RN.below b12
  have RM12 := RM.below b12
  clear cP dP sP cQ dQ sQ cR dR sR cS dS sS cN dN sN cM dM sM RP RQ RR RS RN RM b12 B11
  obtain ⟨cP, dP, sP⟩ := HP12
  obtain ⟨cQ, dQ, sQ⟩ := HQ12
  obtain ⟨cR, dR, sR⟩ := HR12
  obtain ⟨cS, dS, sS⟩ := HS12
  obtain ⟨cN, dN, sN⟩ := HN12
  obtain ⟨cM, dM, sM⟩ := HM12
  have RP := RP12
  clear RP12
  have RQ := RQ12
  clear RQ12
  have RR := RR12
  clear RR12
  have RS := RS12
  clear RS12
  have RN := RN12
  clear RN12
  have RM := RM12
  clear RM12
  clear cP dP sP RP cQ dQ sQ RQ cR dR sR RR cS dS sS RS cN dN sN RN cM dM sM RM S1 S2 fp fq fr fs
  cases h1 <;> cases h2
  case true.true =>
    go_wp2_with fail
    with_reducible refine (M _).mono ?_
    rintro e w' ⟨rfl, b'⟩
    go_wp2
    exact bodyPost_ret (v := .tuple #[.int .i64 (mkN u v), .int .i64 (mkD u v), .bool (mkB u v)]) (by simp [results, Tryd.results26, go_sem]) rfl ⟨by simp, on B12 b'⟩
  all_goals
    go_wp2
    exact bodyPost_ret (v := .tuple #[.int .i64 0, .int .i64 0, .bool false]) (by simp [results, Tryd.results26, go_sem]) rfl ⟨by simp, B12⟩

theorem rgcd_yes (n d : Int) (hn : I64 n) (hd : I64 d) (h : 0 < d) (w : World) :
    Calls Tryd.prog 38 #[.int .i64 n, .int .i64 d] w fun e w' => e = .returned (.tuple #[.int .i64 (n.gcd d : Int), .bool true]) ∧ Below w.heap.size w w' := by
  have hf : I64 (n.gcd d : Int) := by
    have := gcd_le_right (n := n) (d := d) (by omega)
    unfold I64 at *; omega
  have G := rgcd_any n d hn hd w
  rw [(fit_yes hf).1, (fit_yes hf).2] at G
  exact G

theorem fit_of {z : Int} (h : fitB z = true) : fit z = z := (fit_yes (fitB_iff.1 h)).1

theorem rradd_bad (a b c d : Int) (ha : I64 a) (hb : I64 b) (hc : I64 c) (hd : I64 d) (h : goodB a b = false ∨ goodB c d = false) (w : World) :
    Calls Tryd.prog 24 #[.int .i64 a, .int .i64 b, .int .i64 c, .int .i64 d] w fun e w' => e = .returned (.tuple #[.int .i64 0, .int .i64 0, .bool false]) ∧ Below w.heap.size w w' := by
  have G1 := rgood_any a b ha hb
  have G2 := rgood_any c d hc hd
  obtain ⟨p, hp⟩ : ∃ p, goodB a b = p := ⟨_, rfl⟩
  obtain ⟨q, hq⟩ : ∃ q, goodB c d = q := ⟨_, rfl⟩
  rw [hp, hq] at h
  rw [hp] at G1
  rw [hq] at G2
  clear hp hq
  have hpq : (p && q) = false := by rcases h with rfl | rfl <;> simp
  clear h
  cases p <;> cases q
  case true.true => cases hpq
  all_goals
    clear hpq
    go_enter Tryd.func24, Tryd.ntmps24
    go_wp2_with fail
    with_reducible refine (G1 _).mono ?_
    rintro e w1 ⟨rfl, b1⟩
    go_wp2_with fail
    with_reducible refine (G2 _).mono ?_
    rintro e w2 ⟨rfl, b2⟩
    go_wp2
    exact bodyPost_ret (v := .tuple #[.int .i64 0, .int .i64 0, .bool false]) (by simp [results, Tryd.results24, go_sem]) rfl ⟨rfl, on b1 b2⟩

theorem rrmul_bad (a b c d : Int) (ha : I64 a) (hb : I64 b) (hc : I64 c) (hd : I64 d) (h : goodB a b = false ∨ goodB c d = false) (w : World) :
    Calls Tryd.prog 26 #[.int .i64 a, .int .i64 b, .int .i64 c, .int .i64 d] w fun e w' => e = .returned (.tuple #[.int .i64 0, .int .i64 0, .bool false]) ∧ Below w.heap.size w w' := by
  have G1 := rgood_any a b ha hb
  have G2 := rgood_any c d hc hd
  obtain ⟨p, hp⟩ : ∃ p, goodB a b = p := ⟨_, rfl⟩
  obtain ⟨q, hq⟩ : ∃ q, goodB c d = q := ⟨_, rfl⟩
  rw [hp, hq] at h
  rw [hp] at G1
  rw [hq] at G2
  clear hp hq
  have hpq : (p && q) = false := by rcases h with rfl | rfl <;> simp
  clear h
  cases p <;> cases q
  case true.true => cases hpq
  all_goals
    clear hpq
    go_enter Tryd.func26, Tryd.ntmps26
    go_wp2_with fail
    with_reducible refine (G1 _).mono ?_
    rintro e w1 ⟨rfl, b1⟩
    go_wp2_with fail
    with_reducible refine (G2 _).mono ?_
    rintro e w2 ⟨rfl, b2⟩
    go_wp2
    exact bodyPost_ret (v := .tuple #[.int .i64 0, .int .i64 0, .bool false]) (by simp [results, Tryd.results26, go_sem]) rfl ⟨rfl, on b1 b2⟩

theorem rradd_any (a b c d : Int) (ha : I64 a) (hb : I64 b) (hc : I64 c) (hd : I64 d) (w : World) :
    Calls Tryd.prog 24 #[.int .i64 a, .int .i64 b, .int .i64 c, .int .i64 d] w fun e w' => e = .returned (.tuple #[.int .i64 (smN a b c d), .int .i64 (smD a b c d), .bool (smB a b c d)]) ∧ Below w.heap.size w w' := by
  by_cases h1 : goodB a b = true
  · by_cases h2 : goodB c d = true
    · obtain ⟨b0, _⟩ := good_out h1
      obtain ⟨d0, _⟩ := good_out h2
      have G1 := rgood_any a b ha hb
      have G2 := rgood_any c d hc hd
      rw [h1] at G1
      rw [h2] at G2
      have R := rradd_main a b c d (b / (b.gcd d : Int)) (d / (b.gcd d : Int)) (b.gcd d : Int) ha hb hc G1 G2 (rgcd_yes b d hb hd d0) (by have := gcd_pos (n := b) (d := d) (by omega); omega)
        (tdiv_gcd_left b d) (tdiv_gcd_right b d) (ndiv_in (by omega) hb) (ddiv_in (by omega) hd) _ _ _ _ rfl rfl rfl rfl _ _ rfl rfl w
      have hok : (fitB (a * (d / (b.gcd d : Int))) && fitB (c * (b / (b.gcd d : Int))) && fitB (a * (d / (b.gcd d : Int)) + c * (b / (b.gcd d : Int))) && fitB (b * (d / (b.gcd d : Int)))) = smOk a b c d := by
        unfold smOk smX smY smM; rw [h1, h2]; simp
      rw [hok] at R
      by_cases hk : smOk a b c d = true
      · obtain ⟨e1, e2, e3⟩ := sm_yes hk
        have f3 : fitB (smX a b d + smY b c d) = true ∧ fitB (smM b d) = true := by
          unfold smOk at hk; simp only [Bool.and_eq_true] at hk; exact ⟨hk.2.1.2, hk.2.2⟩
        have u1 : fit (a * (d / (b.gcd d : Int)) + c * (b / (b.gcd d : Int))) = smX a b d + smY b c d := fit_of f3.1
        have u2 : fit (b * (d / (b.gcd d : Int))) = smM b d := fit_of f3.2
        rw [u1, u2, hk] at R
        rw [e1, e2, e3]
        simpa using R
      · have hk' : smOk a b c d = false := by simpa using hk
        obtain ⟨e1, e2, e3⟩ := sm_no hk'
        rw [hk'] at R
        rw [e1, e2, e3]
        simpa using R
    · have h2' : goodB c d = false := by simpa using h2
      obtain ⟨e1, e2, e3⟩ := sm_no (smOk_bad2 (a := a) (b := b) h2')
      rw [e1, e2, e3]
      exact rradd_bad a b c d ha hb hc hd (Or.inr h2') w
  · have h1' : goodB a b = false := by simpa using h1
    obtain ⟨e1, e2, e3⟩ := sm_no (smOk_bad1 (c := c) (d := d) h1')
    rw [e1, e2, e3]
    exact rradd_bad a b c d ha hb hc hd (Or.inl h1') w

theorem rrmul_any (a b c d : Int) (ha : I64 a) (hb : I64 b) (hc : I64 c) (hd : I64 d) (w : World) :
    Calls Tryd.prog 26 #[.int .i64 a, .int .i64 b, .int .i64 c, .int .i64 d] w fun e w' => e = .returned (.tuple #[.int .i64 (pdN a b c d), .int .i64 (pdD a b c d), .bool (pdOk a b c d)]) ∧ Below w.heap.size w w' := by
  by_cases h1 : goodB a b = true
  · by_cases h2 : goodB c d = true
    · obtain ⟨b0, _⟩ := good_out h1
      obtain ⟨d0, _⟩ := good_out h2
      have G1 := rgood_any a b ha hb
      have G2 := rgood_any c d hc hd
      rw [h1] at G1
      rw [h2] at G2
      have R := rrmul_main a b c d (a.gcd d : Int) (c.gcd b : Int) (a / (a.gcd d : Int)) (b / (c.gcd b : Int)) (c / (c.gcd b : Int)) (d / (a.gcd d : Int)) G1 G2
        (rgcd_yes a d ha hd d0) (by have := gcd_pos (n := a) (d := d) (by omega); omega) (rgcd_yes c b hc hb b0) (by have := gcd_pos (n := c) (d := b) (by omega); omega)
        (tdiv_gcd_left a d) (tdiv_gcd_right c b) (tdiv_gcd_left c b) (tdiv_gcd_right a d) (ndiv_in (by omega) ha) (ddiv_in (by omega) hb) (ndiv_in (by omega) hc) (ddiv_in (by omega) hd) _ _ rfl rfl _ _ rfl rfl w
      have hok : (fitB (a / (a.gcd d : Int) * (c / (c.gcd b : Int))) && fitB (b / (c.gcd b : Int) * (d / (a.gcd d : Int)))) = pdOk a b c d := by
        unfold pdOk prNum prDen; rw [h1, h2]; simp
      rw [hok] at R
      by_cases hk : pdOk a b c d = true
      · obtain ⟨e1, e2⟩ := pd_yes hk
        have f3 : fitB (prNum a b c d) = true ∧ fitB (prDen a b c d) = true := by
          unfold pdOk at hk; simp only [Bool.and_eq_true] at hk; exact ⟨hk.2.1, hk.2.2⟩
        have u1 : fit (a / (a.gcd d : Int) * (c / (c.gcd b : Int))) = prNum a b c d := fit_of f3.1
        have u2 : fit (b / (c.gcd b : Int) * (d / (a.gcd d : Int))) = prDen a b c d := fit_of f3.2
        obtain ⟨m1, m2, m3⟩ := mk_self (pr_good h1 h2) (fitB_iff.1 f3.1) (fitB_iff.1 f3.2)
        rw [u1, u2, hk, m1, m2, m3] at R
        rw [e1, e2, hk]
        simpa using R
      · have hk' : pdOk a b c d = false := by simpa using hk
        obtain ⟨e1, e2⟩ := pd_no hk'
        rw [hk'] at R
        rw [e1, e2, hk']
        simpa using R
    · have h2' : goodB c d = false := by simpa using h2
      have hk := pdOk_bad2 (a := a) (b := b) h2'
      obtain ⟨e1, e2⟩ := pd_no hk
      rw [e1, e2, hk]
      exact rrmul_bad a b c d ha hb hc hd (Or.inr h2') w
  · have h1' : goodB a b = false := by simpa using h1
    have hk := pdOk_bad1 (c := c) (d := d) h1'
    obtain ⟨e1, e2⟩ := pd_no hk
    rw [e1, e2, hk]
    exact rrmul_bad a b c d ha hb hc hd (Or.inl h1') w
end Go.Proofs.YtjaabjehegcnaaaDoor
