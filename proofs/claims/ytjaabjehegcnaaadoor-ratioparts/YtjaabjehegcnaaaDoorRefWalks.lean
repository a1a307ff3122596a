/-
  What the document's own answers of layer 2 (package secateurref02) do, first part: Good, Make.
-/
import Derived.Test.YtjaabjehegcnaaaDoorQuoWalks2
import Derived.Test.YtjaabjehegcnaaaDoorRatioMath
namespace Go.Proofs.YtjaabjehegcnaaaDoor
set_option maxRecDepth 100000
open Go.RowKit

theorem rgood_any (n d : Int) (hn : I64 n) (hd : I64 d) (w : World) :
    Calls Tryd.prog 15 #[.int .i64 n, .int .i64 d] w fun e w' => e = .returned (.bool (goodB n d)) ∧ Below w.heap.size w w' := by
  have G := rgcd_any n d hn hd
  by_cases h : 0 < d
  · have hf : I64 (n.gcd d : Int) := by
      have := gcd_le_right (n := n) (d := d) (by omega)
      unfold I64 at *; omega
    rw [(fit_yes hf).1, (fit_yes hf).2] at G
    have e1 : (((n.gcd d : Nat) : Int) == 1) = goodB n d := by
      unfold goodB; simp [h, Bool.beq_eq_decide_eq]; omega
    have E1 := Lib.hid e1
    clear e1 hf
    go_enter Tryd.func15, Tryd.ntmps15
    go_wp2_with fail
    with_reducible refine (G _).mono ?_
    rintro e w1 ⟨rfl, b1⟩
    go_wp2
    go_ret
    exact ⟨congrArg (fun b => Ending.returned (.bool b)) E1.out, b1⟩
  · have e1 : goodB n d = false := by unfold goodB; simp [h]
    rw [e1]
    obtain ⟨u, v, G⟩ : ∃ u v, ∀ w, Calls Tryd.prog 38 #[.int .i64 n, .int .i64 d] w fun e w' => e = .returned (.tuple #[.int .i64 u, .bool v]) ∧ Below w.heap.size w w' := ⟨_, _, G⟩
    go_enter Tryd.func15, Tryd.ntmps15
    go_wp2_with fail
    with_reducible refine (G _).mono ?_
    rintro e w1 ⟨rfl, b1⟩
    go_wp2
    go_ret
    exact ⟨rfl, b1⟩

/-- What the document's Make answers. -/
def rmkV (n d : Int) : Value := .tuple #[.int .i64 (mkN n d), .int .i64 (mkD n d), .bool (mkB n d)]
theorem rmkV_is {n d a b : Int} {c : Bool} (h1 : mkN n d = a) (h2 : mkD n d = b) (h3 : mkB n d = c) : rmkV n d = .tuple #[.int .i64 a, .int .i64 b, .bool c] := by
  unfold rmkV; rw [h1, h2, h3]

theorem mk_zero {d : Int} (hd : d ≠ 0) : mkN 0 d = 0 ∧ mkD 0 d = 1 ∧ mkB 0 d = true := by
  have hg : ((Int.gcd 0 d : Nat) : Int) = d.natAbs := by simp
  have p : mkP 0 d = 0 := by unfold mkP; simp
  have q : mkQ 0 d = 1 := by
    unfold mkQ
    rw [hg]
    split
    · rw [show ((d.natAbs : Nat) : Int) = -d by omega, Int.ediv_neg, Int.ediv_self hd]; omega
    · rw [show ((d.natAbs : Nat) : Int) = d by omega, Int.ediv_self hd]
  have := mk_yes (n := 0) hd (by rw [p]; unfold I64; omega) (by rw [q]; unfold I64; omega)
  rw [p, q] at this
  exact this
theorem mk_same {d : Int} (hd : d ≠ 0) : mkN d d = 1 ∧ mkD d d = 1 ∧ mkB d d = true := by
  have hg : ((Int.gcd d d : Nat) : Int) = d.natAbs := by simp
  have q : mkQ d d = 1 := by
    unfold mkQ
    rw [hg]
    split
    · rw [show ((d.natAbs : Nat) : Int) = -d by omega, Int.ediv_neg, Int.ediv_self hd]; omega
    · rw [show ((d.natAbs : Nat) : Int) = d by omega, Int.ediv_self hd]
  have p : mkP d d = 1 := q
  have := mk_yes (n := d) hd (by rw [p]; unfold I64; omega) (by rw [q]; unfold I64; omega)
  rw [p, q] at this
  exact this

theorem short_yes (z : Int) (u : Value) (w : World) (h : Rep w u z) (hz : I64 z) :
    Calls Tryd.prog 41 #[u] w fun e w' => e = .returned (.tuple #[.int .i64 z, .bool true]) ∧ Below w.heap.size w w' := by
  have := short_rep z u w h
  rw [(fit_yes hz).1, (fit_yes hz).2] at this
  exact this
theorem short_no (z : Int) (u : Value) (w : World) (h : Rep w u z) (hz : ¬ I64 z) :
    Calls Tryd.prog 41 #[u] w fun e w' => e = .returned (.tuple #[.int .i64 0, .bool false]) ∧ Below w.heap.size w w' := by
  have := short_rep z u w h
  rw [(fit_no hz).1, (fit_no hz).2] at this
  exact this

set_option maxHeartbeats 2000000 in
theorem rmake_up (n d p q g : Int) (h0 : 0 < d) (hn0 : n ≠ 0) (hnd : n ≠ d) (G : ∀ w, Calls Tryd.prog 38 #[.int .i64 n, .int .i64 d] w fun e w' => e = .returned (.tuple #[.int .i64 g, .bool true]) ∧ Below w.heap.size w w')
    (hg : 0 < g) (t1 : n.tdiv g = p) (t2 : d.tdiv g = q) (ip : I64 p) (iq : I64 q) (w : World) :
    Calls Tryd.prog 12 #[.int .i64 n, .int .i64 d] w fun e w' => e = .returned (.tuple #[.int .i64 p, .int .i64 q, .bool true]) ∧ Below w.heap.size w w' := by
  have e0 : (d == 0) = false := by simp; omega
  have e1 : (n == 0) = false := by simp [hn0]
  have e2 : (n == d) = false := by simp [hnd]
  have hgne : ¬ g = 0 := by omega
  have W1 := wrap_in ip
  have W2 := wrap_in iq
  go_enter Tryd.func12, Tryd.ntmps12
  go_wp2_with fail
  with_reducible refine (G _).mono ?_
  rintro e w1 ⟨rfl, B1⟩
  go_wp2_with fail
  with_reducible refine (of_any p ip _).mono ?_
  rintro e w2 ⟨⟨vA, rfl, QA⟩, b2⟩
  have B2 : Below w.heap.size w w2 := on B1 b2
  clear b2 B1
  obtain ⟨pA, xA, lA, kA, rfl, RA⟩ := QA.form
  go_wp2_with fail
  with_reducible refine (of_any q iq _).mono ?_
  rintro e w3 ⟨⟨vB, rfl, QB⟩, b3⟩
  have B3 : Below w.heap.size w w3 := on (on B2 (one_below w2 (.cells #[.bool pA, .slice xA lA kA] 59))) b3
  have HA3 := (held_new w2 pA xA lA kA).next b3
  have RA3 := (RA.below (one_below w2 (.cells #[.bool pA, .slice xA lA kA] 59))).below b3
  clear RA b3 B2
  obtain ⟨cA, dA, sA⟩ := HA3
  have RA := RA3
  clear RA3
  obtain ⟨pB, xB, lB, kB, rfl, RB⟩ := QB.form
  go_wp2_with fail
  with_reducible refine (short_yes p _ _ (RA.below (one_below w3 (.cells #[.bool pB, .slice xB lB kB] 59))) ip).mono ?_
  rintro e w4 ⟨rfl, b4⟩
  have B4 : Below w.heap.size w w4 := on (on B3 (one_below w3 (.cells #[.bool pB, .slice xB lB kB] 59))) b4
  have HA4 := ((Held.mk cA dA sA).next (one_below w3 (.cells #[.bool pB, .slice xB lB kB] 59))).next b4
  have HB4 := (held_new w3 pB xB lB kB).next b4
  have RA4 := (RA.below (one_below w3 (.cells #[.bool pB, .slice xB lB kB] 59))).below b4
  have RB4 := (RB.below (one_below w3 (.cells #[.bool pB, .slice xB lB kB] 59))).below b4
  clear cA dA sA RA RB b4 B3
  obtain ⟨cA, dA, sA⟩ := HA4
  obtain ⟨cB, dB, sB⟩ := HB4
  have RA := RA4
  clear RA4
  have RB := RB4
  clear RB4
  go_wp2_with fail
  with_reducible refine (short_yes q _ _ RB iq).mono ?_
  rintro e w5 ⟨rfl, b5⟩
  have B5 : Below w.heap.size w w5 := on B4 b5
  have HA5 := (Held.mk cA dA sA).next b5
  have HB5 := (Held.mk cB dB sB).next b5
  have RA5 := RA.below b5
  have RB5 := RB.below b5
  clear cA dA sA cB dB sB RA RB b5 B4
  obtain ⟨cA, dA, sA⟩ := HA5
  obtain ⟨cB, dB, sB⟩ := HB5
  have RA := RA5
  clear RA5
  have RB := RB5
  clear RB5
  go_wp2
  exact bodyPost_ret (v := .tuple #[.int .i64 p, .int .i64 q, .bool true]) (by simp [results, Tryd.results12, go_sem]) rfl ⟨rfl, B5⟩

set_option maxHeartbeats 2000000 in
theorem rmake_down (n d p q g r s : Int) (a b c : Bool) (h0 : d < 0) (hn0 : n ≠ 0) (hnd : n ≠ d) (G : ∀ w, Calls Tryd.prog 38 #[.int .i64 n, .int .i64 d] w fun e w' => e = .returned (.tuple #[.int .i64 g, .bool true]) ∧ Below w.heap.size w w')
    (hg : 0 < g) (t1 : n.tdiv g = p) (t2 : d.tdiv g = q) (ip : I64 p) (iq : I64 q)
    (N1 : ∀ u w, Rep w u (-p) → Calls Tryd.prog 41 #[u] w fun e w' => e = .returned (.tuple #[.int .i64 r, .bool a]) ∧ Below w.heap.size w w')
    (N2 : ∀ u w, Rep w u (-q) → Calls Tryd.prog 41 #[u] w fun e w' => e = .returned (.tuple #[.int .i64 s, .bool b]) ∧ Below w.heap.size w w')
    (hab : (a && b) = c) (w : World) :
    Calls Tryd.prog 12 #[.int .i64 n, .int .i64 d] w fun e w' => e = .returned (.tuple #[.int .i64 (if c = true then r else 0), .int .i64 (if c = true then s else 0), .bool c]) ∧ Below w.heap.size w w' := by
  have e0 : (d == 0) = false := by simp; omega
  have e1 : (n == 0) = false := by simp [hn0]
  have e2 : (n == d) = false := by simp [hnd]
  have hgne : ¬ g = 0 := by omega
  have W1 := wrap_in ip
  have W2 := wrap_in iq
  have HN1 := Lib.hid N1
  have HN2 := Lib.hid N2
  have HAB := Lib.hid hab
  clear N1 N2 hab
  go_enter Tryd.func12, Tryd.ntmps12
  go_wp2_with fail
  with_reducible refine (G _).mono ?_
  rintro e w1 ⟨rfl, B1⟩
  go_wp2_with fail
  with_reducible refine (of_any p ip _).mono ?_
  rintro e w2 ⟨⟨vA, rfl, QA⟩, b2⟩
  obtain ⟨pA, xA, lA, kA, rfl, RA⟩ := QA.form
  have B2 : Below w.heap.size w w2 := on B1 b2
  clear QA b2
  go_wp2_with fail
  with_reducible refine (of_any q iq _).mono ?_
  rintro e w3 ⟨⟨vB, rfl, QB⟩, b3⟩
  obtain ⟨pB, xB, lB, kB, rfl, RB⟩ := QB.form
  have B3 : Below w.heap.size w w3 := on (on B2 (one_below _ _)) b3
  have HA3 := (box_new w2 pA xA lA kA).next b3
  have RA3 := (RA.below (one_below _ _)).below b3
  have z2 := B2.size
  have z3 := b3.size
  simp only [World.size_alloc] at z3
  clear QB b3 RA B2 B1
  have TA := Lib.hid (HA3.next (one_below _ (.cells #[.bool pB, .slice xB lB kB] 59)))
  have TB := Lib.hid (box_new w3 pB xB lB kB)
  obtain ⟨a0, a1, a2, a3, a4⟩ := HA3
  go_wp2_with fail
  with_reducible refine (opp_rep p _ _ (RA3.below (one_below _ _))).mono ?_
  rintro e w4 ⟨⟨vC, rfl, QC⟩, b4⟩
  obtain ⟨pC, xC, lC, kC, rfl, RC⟩ := QC.form
  have B4 : Below w.heap.size w w4 := on (on B3 (one_below _ _)) b4
  have HA4 := TA.out.next b4
  have HB4 := TB.out.next b4
  have RB4 := (RB.below (one_below _ _)).below b4
  have z4 := b4.size
  simp only [World.size_alloc] at z4
  clear QC b4 RB RA3 B3 TA TB a0 a1 a2 a3 a4
  have TA := Lib.hid (HA4.store (p' := pC) (x' := xC) (l' := lC) (k' := kC))
  have TB := Lib.hid (HB4.other (n' := w2.heap.size) (by omega) (u := .bool pC) (v := .slice xC lC kC))
  have RBs := RB4.store HA4.c0 (.bool pC) (.slice xC lC kC)
  have RCs := RC.store HA4.c0 (.bool pC) (.slice xC lC kC)
  have B4s : Below w.heap.size w ((w4.setCell ⟨w2.heap.size, 0, none⟩ (.bool pC)).setCell ⟨w2.heap.size, 1, none⟩ (.slice xC lC kC)) := (B4.setCell (by show w.heap.size ≤ w2.heap.size; omega) _).setCell (by show w.heap.size ≤ w2.heap.size; omega) _
  obtain ⟨a0, a1, a2, a3, a4⟩ := HA4
  obtain ⟨b0, b1, b2, b3, b4⟩ := HB4
  clear RB4 RC B4
  go_wp2_with fail
  with_reducible refine (opp_rep q _ _ RBs).mono ?_
  rintro e w5 ⟨⟨vD, rfl, QD⟩, b5⟩
  obtain ⟨pD, xD, lD, kD, rfl, RD⟩ := QD.form
  have B5 : Below w.heap.size w w5 := on B4s b5
  have HA5 := TA.out.next b5
  have HB5 := TB.out.next b5
  have RC5 := RCs.below b5
  clear QD RBs RCs B4s TA TB a0 a1 a2 a3 a4 b0 b1 b2 b3 b4 b5
  have TA := Lib.hid (HA5.other (n' := w3.heap.size) (by omega) (u := .bool pD) (v := .slice xD lD kD))
  have TB := Lib.hid (HB5.store (p' := pD) (x' := xD) (l' := lD) (k' := kD))
  have RCs := RC5.store HB5.c0 (.bool pD) (.slice xD lD kD)
  have RDs := RD.store HB5.c0 (.bool pD) (.slice xD lD kD)
  have B5s : Below w.heap.size w ((w5.setCell ⟨w3.heap.size, 0, none⟩ (.bool pD)).setCell ⟨w3.heap.size, 1, none⟩ (.slice xD lD kD)) := (B5.setCell (by show w.heap.size ≤ w3.heap.size; omega) _).setCell (by show w.heap.size ≤ w3.heap.size; omega) _
  obtain ⟨a0, a1, a2, a3, a4⟩ := HA5
  obtain ⟨b0, b1, b2, b3, b4⟩ := HB5
  clear RC5 RD B5
  go_wp2_with fail
  with_reducible refine (HN1.out _ _ RCs).mono ?_
  rintro e w6 ⟨rfl, b6⟩
  have B6 : Below w.heap.size w w6 := on B5s b6
  have HB6 := TB.out.next b6
  have RD6 := RDs.below b6
  clear RDs RCs B5s TA TB a0 a1 a2 a3 a4 b0 b1 b2 b3 b4 b6
  obtain ⟨b0, b1, b2, b3, b4⟩ := HB6
  go_wp2_with fail
  with_reducible refine (HN2.out _ _ RD6).mono ?_
  rintro e w7 ⟨rfl, b7⟩
  have B7 : Below w.heap.size w w7 := on B6 b7
  clear b0 b1 b2 b3 b4 b7 B6 RD6
  have hab := HAB.out
  subst hab
  cases a <;> cases b
  iterate 3
    · go_wp2
      exact bodyPost_ret (v := .tuple #[.int .i64 0, .int .i64 0, .bool false]) (by simp [results, Tryd.results12, go_sem]) rfl ⟨by simp, B7⟩
  · go_wp2
    exact bodyPost_ret (v := .tuple #[.int .i64 r, .int .i64 s, .bool true]) (by simp [results, Tryd.results12, go_sem]) rfl ⟨by simp, B7⟩

theorem rmake_any (n d : Int) (hn : I64 n) (hd : I64 d) (w : World) :
    Calls Tryd.prog 12 #[.int .i64 n, .int .i64 d] w fun e w' => e = .returned (rmkV n d) ∧ Below w.heap.size w w' := by
  by_cases h0 : d = 0
  · have e := mk_no (n := n) (d := d) (fun hh => hh.1 h0)
    rw [rmkV_is e.1 e.2.1 e.2.2]
    have e0 : (d == 0) = true := by simp [h0]
    clear e h0
    go_enter Tryd.func12, Tryd.ntmps12
    go_wp2
    exact bodyPost_ret (v := .tuple #[.int .i64 0, .int .i64 0, .bool false]) (by simp [results, Tryd.results12, go_sem]) rfl ⟨rfl, Below.refl _ _⟩
  · have e0 : (d == 0) = false := by simp [h0]
    by_cases h1 : n = 0
    · subst h1
      have e := mk_zero h0
      rw [rmkV_is e.1 e.2.1 e.2.2]
      clear e h0
      go_enter Tryd.func12, Tryd.ntmps12
      go_wp2
      exact bodyPost_ret (v := .tuple #[.int .i64 0, .int .i64 1, .bool true]) (by simp [results, Tryd.results12, go_sem]) rfl ⟨rfl, Below.refl _ _⟩
    · have e1 : (n == 0) = false := by simp [h1]
      by_cases h2 : n = d
      · subst h2
        have e := mk_same h0
        rw [rmkV_is e.1 e.2.1 e.2.2]
        clear e h0 h1
        go_enter Tryd.func12, Tryd.ntmps12
        go_wp2
        exact bodyPost_ret (v := .tuple #[.int .i64 1, .int .i64 1, .bool true]) (by simp [results, Tryd.results12, go_sem]) rfl ⟨rfl, Below.refl _ _⟩
      · have hf : I64 (n.gcd d : Int) := Classical.byContradiction fun hf => by
          obtain ⟨f1, f2, _⟩ := gcd_far h0 hn hd hf
          omega
        have G := rgcd_any n d hn hd
        rw [(fit_yes hf).1, (fit_yes hf).2] at G
        have hg := gcd_pos (n := n) h0
        have i1 := ndiv_in h0 hn
        have i2 := ddiv_in (n := n) h0 hd
        by_cases h3 : 0 < d
        · obtain ⟨m1, m2, m3⟩ := mk_up h3 hn hd
          rw [rmkV_is m1 m2 m3]
          exact rmake_up n d _ _ _ h3 h1 h2 G (by omega) (tdiv_gcd_left n d) (tdiv_gcd_right n d) i1 i2 w
        · obtain ⟨m1, m2⟩ := mk_down (n := n) (d := d) (by omega)
          have hb : (fitB (mkP n d) && fitB (mkQ n d)) = mkB n d := by unfold mkB; simp [h0]
          rw [m1, m2] at hb
          have := rmake_down n d _ _ _ (fit (mkP n d)) (fit (mkQ n d)) _ _ (mkB n d) (by omega) h1 h2 G (by omega) (tdiv_gcd_left n d) (tdiv_gcd_right n d) i1 i2
            (fun u w h => by rw [m1]; exact short_rep _ u w h) (fun u w h => by rw [m2]; exact short_rep _ u w h) hb w
          have f1 : (if mkB n d = true then fit (mkP n d) else 0) = mkN n d := by
            unfold mkN
            by_cases hm : mkB n d = true
            · rw [if_pos hm, if_pos hm]
              have hh := hm
              unfold mkB at hh
              simp only [Bool.and_eq_true] at hh
              exact (fit_yes (fitB_iff.1 hh.2.1)).1
            · rw [if_neg hm, if_neg hm]
          have f2 : (if mkB n d = true then fit (mkQ n d) else 0) = mkD n d := by
            unfold mkD
            by_cases hm : mkB n d = true
            · rw [if_pos hm, if_pos hm]
              have hh := hm
              unfold mkB at hh
              simp only [Bool.and_eq_true] at hh
              exact (fit_yes (fitB_iff.1 hh.2.2)).1
            · rw [if_neg hm, if_neg hm]
          rw [f1, f2] at this
          exact this
end Go.Proofs.YtjaabjehegcnaaaDoor
