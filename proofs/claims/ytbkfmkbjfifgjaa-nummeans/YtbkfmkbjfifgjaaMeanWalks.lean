/-
  What the document's FloorSum does (package secateurref01): a sum's quotient, by halves.
-/
import Derived.Test.YtbkfmkbjfifgjaaSumWalks
namespace Go.Proofs.Ytbkfmkbjfifgjaa
open Go.RowKit

def oneC : Int := 1
theorem of_one (w : World) : Calls Try.prog 10 #[.int .i64 1] w fun e w' => (∃ v, e = .returned v ∧ Rep w' v oneC) ∧ Below w.heap.size w w' :=
  of_any 1 (by unfold I64; omega) w
theorem few_lo : Few loC := few_of 4 (by omega) (by unfold loC; omega)
theorem few_hi : Few hiC := few_of 4 (by omega) (by unfold hiC; omega)
theorem few_oneC : Few oneC := few_of 4 (by omega) (by unfold oneC; omega)
theorem few_above : Few (hiC + oneC) := few_of 5 (by omega) (by unfold hiC oneC; omega)

/-- Halves of a whole number, cut off. -/
theorem halve (x : Int) : ∃ a r : Int, x.tdiv 2 = a ∧ x.tmod 2 = r ∧ 2 * a + r = x ∧ -1 ≤ r ∧ r ≤ 1 ∧ (0 ≤ x → 0 ≤ r) ∧ (x ≤ 0 → r ≤ 0) := by
  refine ⟨_, _, rfl, rfl, Int.mul_tdiv_add_tmod x 2, ?_⟩
  rw [Int.tmod_eq_emod]
  by_cases h : 0 ≤ x ∨ (2 : Int) ∣ x
  · rw [if_pos h]; simp; omega
  · rw [if_neg h]; simp; omega

theorem ret_two' {k : IntKind} {a b : Int} {c d : Bool} (h : a = b) (h2 : c = d) : Ending.returned (.tuple #[.int k a, .bool c]) = .returned (.tuple #[.int k b, .bool d]) := by rw [h, h2]

/-- The sum and the divisor, each in a variable of its own. -/
structure Duo (nS nD : Nat) (pS : Bool) (xS : Option Addr) (lS kS : Nat) (pD : Bool) (xD : Option Addr) (lD kD : Nat) (S d : Int) (w0 w : World) : Prop where
  mk ::
  cS : w.cell? ⟨nS, 0, none⟩ = some (.bool pS)
  dS : w.cell? ⟨nS, 1, none⟩ = some (.slice xS lS kS)
  sS : nS < w.heap.size
  cD : w.cell? ⟨nD, 0, none⟩ = some (.bool pD)
  dD : w.cell? ⟨nD, 1, none⟩ = some (.slice xD lD kD)
  sD : nD < w.heap.size
  RS : Rep w (.agg #[.bool pS, .slice xS lS kS]) S
  RD : Rep w (.agg #[.bool pD, .slice xD lD kD]) d
  bel : Below w0.heap.size w0 w

set_option maxHeartbeats 8000000 in
theorem rfsum_yes (d : Int) (x : Option Addr) (len cap : Nat) (zs : List Int) (w : World) (hd : 0 < d) (hdI : I64 d) (h : Nums w x len zs) (h100 : len ≤ 100) :
    Calls Try.prog 30 #[.int .i64 d, .slice x len cap] w fun e w' => e = .returned (.tuple #[.int .i64 (fit (sumTo zs len / d)), .bool (fitB (sumTo zs len / d))]) ∧ Below w.heap.size w w' := by
  have fd := Lib.hid (few_i64 hdI)
  have hdn : ¬ d ≤ 0 := by omega
  obtain ⟨F, hFe0⟩ : ∃ F, sumTo zs len / d = F := ⟨_, rfl⟩
  rw [hFe0]
  have HF0 := Lib.hid hFe0
  clear hFe0
  go_enter Try.func30, Try.ntmps30
  go_wp2
  go_loopw [7] (fun i wr => ∃ k : Nat, k ≤ len ∧ i = .int .i64 k ∧ Sumd w.heap.size (sumTo zs k) wr ∧ Below w.heap.size w wr) (fun i _ => len - (intOf i).toNat)
  case atStart => exact ⟨0, by omega, rfl, ⟨_, _, _, _, box_new w _ _ _ _, by rw [sumTo_zero]; exact rep_zero _⟩, one_below w _⟩
  case round =>
    obtain ⟨k, hk, rfl, ⟨pS, xS, lS, kS, hS, RS⟩, hB⟩ := hrel
    have hN := h.below hB
    have hf := (sumTo_in h.ok (k := k) (by have := h.le; omega) (by omega)).2
    by_cases hlt : k < len
    · obtain ⟨b, off, hx, hb, hc⟩ := hN.at_ (by omega)
      subst hx
      have hck := hc k hlt
      have hz := hN.get hlt
      have fz := few_i64 hz
      obtain ⟨z, hze⟩ : ∃ z, zs.getD k 0 = z := ⟨_, rfl⟩
      obtain ⟨s, hse⟩ : ∃ s, sumTo zs k = s := ⟨_, rfl⟩
      have hnext : Hid (sumTo zs (k + 1) = s + z) := by show _ = _; rw [sumTo_succ (by have := h.le; omega), hze, hse]
      rw [hze] at hck hz fz
      rw [hse] at RS hf
      clear hc hze hse hN
      have HS := Lib.hid hS
      obtain ⟨t0, t1, t2, t3, t4⟩ := hS
      go_wp2_with fail
      with_reducible refine (of_any z hz _).mono ?_
      rintro e w1 ⟨⟨v, rfl, Q⟩, b1⟩
      obtain ⟨pX, xX, lX, kX, rfl, RX⟩ := Q.form
      have HS1 := HS.out.next b1
      have RS1 := RS.below b1
      have B1 := on hB b1
      clear t0 t1 t2 t3 t4 HS RS hB b1 hck
      have HS := Lib.hid HS1
      obtain ⟨t0, t1, t2, t3, t4⟩ := HS1
      go_wp2_with fail
      with_reducible refine (radd_rep s z _ _ _ (RS1.below (one_below _ _)) (RX.below (one_below _ _)) hf fz).mono ?_
      rintro e w2 ⟨⟨v, rfl, Q⟩, b2⟩
      obtain ⟨pY, xY, lY, kY, rfl, RY⟩ := Q.form
      have HS2 := (HS.out.next (one_below _ _)).next b2
      have B2 := on (on B1 (one_below _ _)) b2
      clear t0 t1 t2 t3 t4 HS RS1 B1 b2 RX
      have HS := Lib.hid HS2
      obtain ⟨t0, t1, t2, t3, t4⟩ := HS2
      go_wp2
      go_roundw
      case rel => exact ⟨k + 1, by omega, by go_num, ⟨pY, xY, lY, kY, HS.out.store, by rw [hnext.out]; exact RY.store t0 _ _⟩, (B2.setCell (Nat.le_refl _) _).setCell (Nat.le_refl _) _⟩
      case measure => simp [intOf]; omega
    · obtain rfl : k = len := by omega
      obtain ⟨cS, dS, _, _, sS⟩ := hS
      obtain ⟨S, hSe⟩ : ∃ S, sumTo zs k = S := ⟨_, rfl⟩
      rw [hSe] at RS hf
      have HSe := Lib.hid hSe
      obtain ⟨c1, hc1⟩ : ∃ c, cmp3 S (loC * d) = c := ⟨_, rfl⟩
      obtain ⟨c2, hc2⟩ : ∃ c, cmp3 S ((hiC + oneC) * d) = c := ⟨_, rfl⟩
      have HC1 := Lib.hid hc1
      have HC2 := Lib.hid hc2
      clear hN hSe hc1 hc2
      go_wp2_with fail
      with_reducible refine (of_any d hdI _).mono ?_
      rintro e w2 ⟨⟨vD, rfl, QD⟩, b2⟩
      have B2 : Below w.heap.size w w2 := on hB b2
      have HS2 := (Held.mk cS dS sS).next b2
      have RS2 := RS.below b2
      clear cS dS sS RS b2 hB
      obtain ⟨cS, dS, sS⟩ := HS2
      have RS := RS2
      clear RS2
      obtain ⟨pD, xD, lD, kD, rfl, RD⟩ := QD.form
      go_wp2_with fail
      with_reducible refine (of_lo _).mono ?_
      rintro e w3 ⟨⟨vL, rfl, QL⟩, b3⟩
      have B3 : Below w.heap.size w w3 := on (on B2 (one_below w2 (.cells #[.bool pD, .slice xD lD kD] 24))) b3
      have HS3 := ((Held.mk cS dS sS).next (one_below w2 (.cells #[.bool pD, .slice xD lD kD] 24))).next b3
      have HD3 := (held_new w2 pD xD lD kD).next b3
      have RS3 := (RS.below (one_below w2 (.cells #[.bool pD, .slice xD lD kD] 24))).below b3
      have RD3 := (RD.below (one_below w2 (.cells #[.bool pD, .slice xD lD kD] 24))).below b3
      clear cS dS sS RS RD b3 B2
      obtain ⟨cS, dS, sS⟩ := HS3
      obtain ⟨cD, dD, sD⟩ := HD3
      have RS := RS3
      clear RS3
      have RD := RD3
      clear RD3
      obtain ⟨pL, xL, lL, kL, rfl, RL⟩ := QL.form
      go_wp2_with fail
      with_reducible refine (of_hi _).mono ?_
      rintro e w4 ⟨⟨vH, rfl, QH⟩, b4⟩
      have B4 : Below w.heap.size w w4 := on (on B3 (one_below w3 (.cells #[.bool pL, .slice xL lL kL] 24))) b4
      have HS4 := ((Held.mk cS dS sS).next (one_below w3 (.cells #[.bool pL, .slice xL lL kL] 24))).next b4
      have HD4 := ((Held.mk cD dD sD).next (one_below w3 (.cells #[.bool pL, .slice xL lL kL] 24))).next b4
      have HL4 := (held_new w3 pL xL lL kL).next b4
      have RS4 := (RS.below (one_below w3 (.cells #[.bool pL, .slice xL lL kL] 24))).below b4
      have RD4 := (RD.below (one_below w3 (.cells #[.bool pL, .slice xL lL kL] 24))).below b4
      have RL4 := (RL.below (one_below w3 (.cells #[.bool pL, .slice xL lL kL] 24))).below b4
      clear cS dS sS cD dD sD RS RD RL b4 B3
      obtain ⟨cS, dS, sS⟩ := HS4
      obtain ⟨cD, dD, sD⟩ := HD4
      obtain ⟨cL, dL, sL⟩ := HL4
      have RS := RS4
      clear RS4
      have RD := RD4
      clear RD4
      have RL := RL4
      clear RL4
      obtain ⟨pH, xH, lH, kH, rfl, RH⟩ := QH.form
      go_wp2_with fail
      with_reducible refine (of_one _).mono ?_
      rintro e w5 ⟨⟨vO, rfl, QO⟩, b5⟩
      have B5 : Below w.heap.size w w5 := on (on B4 (one_below w4 (.cells #[.bool pH, .slice xH lH kH] 24))) b5
      have HS5 := ((Held.mk cS dS sS).next (one_below w4 (.cells #[.bool pH, .slice xH lH kH] 24))).next b5
      have HD5 := ((Held.mk cD dD sD).next (one_below w4 (.cells #[.bool pH, .slice xH lH kH] 24))).next b5
      have HL5 := ((Held.mk cL dL sL).next (one_below w4 (.cells #[.bool pH, .slice xH lH kH] 24))).next b5
      have HH5 := (held_new w4 pH xH lH kH).next b5
      have RS5 := (RS.below (one_below w4 (.cells #[.bool pH, .slice xH lH kH] 24))).below b5
      have RD5 := (RD.below (one_below w4 (.cells #[.bool pH, .slice xH lH kH] 24))).below b5
      have RL5 := (RL.below (one_below w4 (.cells #[.bool pH, .slice xH lH kH] 24))).below b5
      have RH5 := (RH.below (one_below w4 (.cells #[.bool pH, .slice xH lH kH] 24))).below b5
      clear cS dS sS cD dD sD cL dL sL RS RD RL RH b5 B4
      obtain ⟨cS, dS, sS⟩ := HS5
      obtain ⟨cD, dD, sD⟩ := HD5
      obtain ⟨cL, dL, sL⟩ := HL5
      obtain ⟨cH, dH, sH⟩ := HH5
      have RS := RS5
      clear RS5
      have RD := RD5
      clear RD5
      have RL := RL5
      clear RL5
      have RH := RH5
      clear RH5
      obtain ⟨pO, xO, lO, kO, rfl, RO⟩ := QO.form
      go_wp2_with fail
      with_reducible refine (rmul_rep loC d _ _ _ (RL.below (one_below w5 (.cells #[.bool pO, .slice xO lO kO] 24))) (RD.below (one_below w5 (.cells #[.bool pO, .slice xO lO kO] 24))) few_lo fd.out).mono ?_
      rintro e w6 ⟨⟨vE, rfl, QE⟩, b6⟩
      have B6 : Below w.heap.size w w6 := on (on B5 (one_below w5 (.cells #[.bool pO, .slice xO lO kO] 24))) b6
      have HS6 := ((Held.mk cS dS sS).next (one_below w5 (.cells #[.bool pO, .slice xO lO kO] 24))).next b6
      have HD6 := ((Held.mk cD dD sD).next (one_below w5 (.cells #[.bool pO, .slice xO lO kO] 24))).next b6
      have HL6 := ((Held.mk cL dL sL).next (one_below w5 (.cells #[.bool pO, .slice xO lO kO] 24))).next b6
      have HH6 := ((Held.mk cH dH sH).next (one_below w5 (.cells #[.bool pO, .slice xO lO kO] 24))).next b6
      have HO6 := (held_new w5 pO xO lO kO).next b6
      have RS6 := (RS.below (one_below w5 (.cells #[.bool pO, .slice xO lO kO] 24))).below b6
      have RD6 := (RD.below (one_below w5 (.cells #[.bool pO, .slice xO lO kO] 24))).below b6
      have RL6 := (RL.below (one_below w5 (.cells #[.bool pO, .slice xO lO kO] 24))).below b6
      have RH6 := (RH.below (one_below w5 (.cells #[.bool pO, .slice xO lO kO] 24))).below b6
      have RO6 := (RO.below (one_below w5 (.cells #[.bool pO, .slice xO lO kO] 24))).below b6
      clear cS dS sS cD dD sD cL dL sL cH dH sH RS RD RL RH RO b6 B5
      obtain ⟨cS, dS, sS⟩ := HS6
      obtain ⟨cD, dD, sD⟩ := HD6
      obtain ⟨cL, dL, sL⟩ := HL6
      obtain ⟨cH, dH, sH⟩ := HH6
      obtain ⟨cO, dO, sO⟩ := HO6
      have RS := RS6
      clear RS6
      have RD := RD6
      clear RD6
      have RL := RL6
      clear RL6
      have RH := RH6
      clear RH6
      have RO := RO6
      clear RO6
      obtain ⟨pE, xE, lE, kE, rfl, RE⟩ := QE.form
      go_wp2_with fail
      with_reducible refine (radd_rep hiC oneC _ _ _ (RH.below (one_below w6 (.cells #[.bool pE, .slice xE lE kE] 24))) (RO.below (one_below w6 (.cells #[.bool pE, .slice xE lE kE] 24))) few_hi few_oneC).mono ?_
      rintro e w7 ⟨⟨vA, rfl, QA⟩, b7⟩
      have B7 : Below w.heap.size w w7 := on (on B6 (one_below w6 (.cells #[.bool pE, .slice xE lE kE] 24))) b7
      have HS7 := ((Held.mk cS dS sS).next (one_below w6 (.cells #[.bool pE, .slice xE lE kE] 24))).next b7
      have HD7 := ((Held.mk cD dD sD).next (one_below w6 (.cells #[.bool pE, .slice xE lE kE] 24))).next b7
      have HL7 := ((Held.mk cL dL sL).next (one_below w6 (.cells #[.bool pE, .slice xE lE kE] 24))).next b7
      have HH7 := ((Held.mk cH dH sH).next (one_below w6 (.cells #[.bool pE, .slice xE lE kE] 24))).next b7
      have HO7 := ((Held.mk cO dO sO).next (one_below w6 (.cells #[.bool pE, .slice xE lE kE] 24))).next b7
      have HE7 := (held_new w6 pE xE lE kE).next b7
      have RS7 := (RS.below (one_below w6 (.cells #[.bool pE, .slice xE lE kE] 24))).below b7
      have RD7 := (RD.below (one_below w6 (.cells #[.bool pE, .slice xE lE kE] 24))).below b7
      have RL7 := (RL.below (one_below w6 (.cells #[.bool pE, .slice xE lE kE] 24))).below b7
      have RH7 := (RH.below (one_below w6 (.cells #[.bool pE, .slice xE lE kE] 24))).below b7
      have RO7 := (RO.below (one_below w6 (.cells #[.bool pE, .slice xE lE kE] 24))).below b7
      have RE7 := (RE.below (one_below w6 (.cells #[.bool pE, .slice xE lE kE] 24))).below b7
      clear cS dS sS cD dD sD cL dL sL cH dH sH cO dO sO RS RD RL RH RO RE b7 B6
      obtain ⟨cS, dS, sS⟩ := HS7
      obtain ⟨cD, dD, sD⟩ := HD7
      obtain ⟨cL, dL, sL⟩ := HL7
      obtain ⟨cH, dH, sH⟩ := HH7
      obtain ⟨cO, dO, sO⟩ := HO7
      obtain ⟨cE, dE, sE⟩ := HE7
      have RS := RS7
      clear RS7
      have RD := RD7
      clear RD7
      have RL := RL7
      clear RL7
      have RH := RH7
      clear RH7
      have RO := RO7
      clear RO7
      have RE := RE7
      clear RE7
      obtain ⟨pA, xA, lA, kA, rfl, RA⟩ := QA.form
      go_wp2_with fail
      with_reducible refine (rmul_rep (hiC + oneC) d _ _ _ (RA.below (one_below w7 (.cells #[.bool pA, .slice xA lA kA] 24))) (RD.below (one_below w7 (.cells #[.bool pA, .slice xA lA kA] 24))) few_above fd.out).mono ?_
      rintro e w8 ⟨⟨vM, rfl, QM⟩, b8⟩
      have B8 : Below w.heap.size w w8 := on (on B7 (one_below w7 (.cells #[.bool pA, .slice xA lA kA] 24))) b8
      have HS8 := ((Held.mk cS dS sS).next (one_below w7 (.cells #[.bool pA, .slice xA lA kA] 24))).next b8
      have HD8 := ((Held.mk cD dD sD).next (one_below w7 (.cells #[.bool pA, .slice xA lA kA] 24))).next b8
      have HL8 := ((Held.mk cL dL sL).next (one_below w7 (.cells #[.bool pA, .slice xA lA kA] 24))).next b8
      have HH8 := ((Held.mk cH dH sH).next (one_below w7 (.cells #[.bool pA, .slice xA lA kA] 24))).next b8
      have HO8 := ((Held.mk cO dO sO).next (one_below w7 (.cells #[.bool pA, .slice xA lA kA] 24))).next b8
      have HE8 := ((Held.mk cE dE sE).next (one_below w7 (.cells #[.bool pA, .slice xA lA kA] 24))).next b8
      have HA8 := (held_new w7 pA xA lA kA).next b8
      have RS8 := (RS.below (one_below w7 (.cells #[.bool pA, .slice xA lA kA] 24))).below b8
      have RD8 := (RD.below (one_below w7 (.cells #[.bool pA, .slice xA lA kA] 24))).below b8
      have RL8 := (RL.below (one_below w7 (.cells #[.bool pA, .slice xA lA kA] 24))).below b8
      have RH8 := (RH.below (one_below w7 (.cells #[.bool pA, .slice xA lA kA] 24))).below b8
      have RO8 := (RO.below (one_below w7 (.cells #[.bool pA, .slice xA lA kA] 24))).below b8
      have RE8 := (RE.below (one_below w7 (.cells #[.bool pA, .slice xA lA kA] 24))).below b8
      have RA8 := (RA.below (one_below w7 (.cells #[.bool pA, .slice xA lA kA] 24))).below b8
      clear cS dS sS cD dD sD cL dL sL cH dH sH cO dO sO cE dE sE RS RD RL RH RO RE RA b8 B7
      obtain ⟨cS, dS, sS⟩ := HS8
      obtain ⟨cD, dD, sD⟩ := HD8
      obtain ⟨cL, dL, sL⟩ := HL8
      obtain ⟨cH, dH, sH⟩ := HH8
      obtain ⟨cO, dO, sO⟩ := HO8
      obtain ⟨cE, dE, sE⟩ := HE8
      obtain ⟨cA, dA, sA⟩ := HA8
      have RS := RS8
      clear RS8
      have RD := RD8
      clear RD8
      have RL := RL8
      clear RL8
      have RH := RH8
      clear RH8
      have RO := RO8
      clear RO8
      have RE := RE8
      clear RE8
      have RA := RA8
      clear RA8
      obtain ⟨pM, xM, lM, kM, rfl, RM⟩ := QM.form
      go_wp2_with fail
      with_reducible refine (cmp_rep S (loC * d) _ _ _ (RS.below (one_below w8 (.cells #[.bool pM, .slice xM lM kM] 24))) (RE.below (one_below w8 (.cells #[.bool pM, .slice xM lM kM] 24)))).mono ?_
      rintro e w9 ⟨rfl, b9⟩
      have B9 : Below w.heap.size w w9 := on (on B8 (one_below w8 (.cells #[.bool pM, .slice xM lM kM] 24))) b9
      have HS9 := ((Held.mk cS dS sS).next (one_below w8 (.cells #[.bool pM, .slice xM lM kM] 24))).next b9
      have HD9 := ((Held.mk cD dD sD).next (one_below w8 (.cells #[.bool pM, .slice xM lM kM] 24))).next b9
      have HL9 := ((Held.mk cL dL sL).next (one_below w8 (.cells #[.bool pM, .slice xM lM kM] 24))).next b9
      have HH9 := ((Held.mk cH dH sH).next (one_below w8 (.cells #[.bool pM, .slice xM lM kM] 24))).next b9
      have HO9 := ((Held.mk cO dO sO).next (one_below w8 (.cells #[.bool pM, .slice xM lM kM] 24))).next b9
      have HE9 := ((Held.mk cE dE sE).next (one_below w8 (.cells #[.bool pM, .slice xM lM kM] 24))).next b9
      have HA9 := ((Held.mk cA dA sA).next (one_below w8 (.cells #[.bool pM, .slice xM lM kM] 24))).next b9
      have HM9 := (held_new w8 pM xM lM kM).next b9
      have RS9 := (RS.below (one_below w8 (.cells #[.bool pM, .slice xM lM kM] 24))).below b9
      have RD9 := (RD.below (one_below w8 (.cells #[.bool pM, .slice xM lM kM] 24))).below b9
      have RL9 := (RL.below (one_below w8 (.cells #[.bool pM, .slice xM lM kM] 24))).below b9
      have RH9 := (RH.below (one_below w8 (.cells #[.bool pM, .slice xM lM kM] 24))).below b9
      have RO9 := (RO.below (one_below w8 (.cells #[.bool pM, .slice xM lM kM] 24))).below b9
      have RE9 := (RE.below (one_below w8 (.cells #[.bool pM, .slice xM lM kM] 24))).below b9
      have RA9 := (RA.below (one_below w8 (.cells #[.bool pM, .slice xM lM kM] 24))).below b9
      have RM9 := (RM.below (one_below w8 (.cells #[.bool pM, .slice xM lM kM] 24))).below b9
      clear cS dS sS cD dD sD cL dL sL cH dH sH cO dO sO cE dE sE cA dA sA RS RD RL RH RO RE RA RM b9 B8
      obtain ⟨cS, dS, sS⟩ := HS9
      obtain ⟨cD, dD, sD⟩ := HD9
      obtain ⟨cL, dL, sL⟩ := HL9
      obtain ⟨cH, dH, sH⟩ := HH9
      obtain ⟨cO, dO, sO⟩ := HO9
      obtain ⟨cE, dE, sE⟩ := HE9
      obtain ⟨cA, dA, sA⟩ := HA9
      obtain ⟨cM, dM, sM⟩ := HM9
      have RS := RS9
      clear RS9
      have RD := RD9
      clear RD9
      have RL := RL9
      clear RL9
      have RH := RH9
      clear RH9
      have RO := RO9
      clear RO9
      have RE := RE9
      clear RE9
      have RA := RA9
      clear RA9
      have RM := RM9
      clear RM9
      rw [HC1.out]
      go_wp2_with fail
      with_reducible refine (cmp_rep S ((hiC + oneC) * d) _ _ _ RS RM).mono ?_
      rintro e w10 ⟨rfl, b10⟩
      have B10 : Below w.heap.size w w10 := on B9 b10
      have HS10 := (Held.mk cS dS sS).next b10
      have HD10 := (Held.mk cD dD sD).next b10
      have HL10 := (Held.mk cL dL sL).next b10
      have HH10 := (Held.mk cH dH sH).next b10
      have HO10 := (Held.mk cO dO sO).next b10
      have HE10 := (Held.mk cE dE sE).next b10
      have HA10 := (Held.mk cA dA sA).next b10
      have HM10 := (Held.mk cM dM sM).next b10
      have RS10 := RS.below b10
      have RD10 := RD.below b10
      have RL10 := RL.below b10
      have RH10 := RH.below b10
      have RO10 := RO.below b10
      have RE10 := RE.below b10
      have RA10 := RA.below b10
      have RM10 := RM.below b10
      clear cS dS sS cD dD sD cL dL sL cH dH sH cO dO sO cE dE sE cA dA sA cM dM sM RS RD RL RH RO RE RA RM b10 B9
      obtain ⟨cS, dS, sS⟩ := HS10
      obtain ⟨cD, dD, sD⟩ := HD10
      obtain ⟨cL, dL, sL⟩ := HL10
      obtain ⟨cH, dH, sH⟩ := HH10
      obtain ⟨cO, dO, sO⟩ := HO10
      obtain ⟨cE, dE, sE⟩ := HE10
      obtain ⟨cA, dA, sA⟩ := HA10
      obtain ⟨cM, dM, sM⟩ := HM10
      have RS := RS10
      clear RS10
      have RD := RD10
      clear RD10
      have RL := RL10
      clear RL10
      have RH := RH10
      clear RH10
      have RO := RO10
      clear RO10
      have RE := RE10
      clear RE10
      have RA := RA10
      clear RA10
      have RM := RM10
      clear RM10
      rw [HC2.out]
      have HFe : Hid (S / d = F) := by show _ = _; rw [← HSe.out]; exact HF0.out
      by_cases hlo : F < loC
      · have hb1 : c1 < 0 := by rw [← HC1.out]; unfold cmp3; rw [if_pos (by rw [← HFe.out] at hlo; exact (Int.ediv_lt_iff_lt_mul hd).1 hlo)]; omega
        have hI : ¬ I64 F := by unfold I64; unfold loC at hlo; omega
        have HI := Lib.hid (fit_no hI)
        clear hI hlo
        go_wp2
        go_ret2
        exact ⟨ret_two' HI.out.1.symm HI.out.2.symm, B10⟩
      · have hnl : ¬ S < loC * d := fun hh => hlo (by rw [← HFe.out]; exact (Int.ediv_lt_iff_lt_mul hd).2 hh)
        have hb1 : ¬ c1 < 0 := by rw [← HC1.out]; unfold cmp3; rw [if_neg hnl]; split <;> omega
        have hb1' : decide (c1 < 0) = false := by simpa using hb1
        by_cases hhi : hiC + oneC ≤ F
        · have hb2 : 0 ≤ c2 := by
            have : (hiC + oneC) * d ≤ S := by rw [← HFe.out] at hhi; exact (Int.le_ediv_iff_mul_le hd).1 hhi
            rw [← HC2.out]; unfold cmp3; rw [if_neg (by omega)]; split <;> omega
          have hI : ¬ I64 F := by unfold I64; unfold hiC oneC at hhi; omega
          have HI := Lib.hid (fit_no hI)
          clear hI hhi hlo hnl
          go_wp2
          go_ret2
          exact ⟨ret_two' HI.out.1.symm HI.out.2.symm, B10⟩
        · have hb2 : ¬ 0 ≤ c2 := by
            have : ¬ (hiC + oneC) * d ≤ S := fun hh => hhi (by rw [← HFe.out]; exact (Int.le_ediv_iff_mul_le hd).2 hh)
            rw [← HC2.out]; unfold cmp3; rw [if_pos (by omega)]; omega
          have hb2' : decide (0 ≤ c2) = false := by simpa using hb2
          have hI : I64 F := by unfold I64; unfold hiC oneC at hhi; unfold loC at hlo; omega
          have HI := Lib.hid (fit_yes hI)
          have HIF := Lib.hid hI
          have HDu := Lib.hid (Duo.mk cS dS sS cD dD sD RS RD B10)
          clear hI hhi hlo hnl cS dS sS cD dD sD RS RD B10 cL dL sL RL cH dH sH RH cO dO sO RO cE dE sE RE cA dA sA RA cM dM sM RM
          go_wp2
          go_loopw [18, 19] (fun xs ys w11 => ∃ X Y : Int, xs = .int .i64 X ∧ ys = .int .i64 Y ∧ I64 X ∧ I64 Y ∧ X ≤ F ∧ F ≤ Y ∧ Duo w.heap.size w2.heap.size pS xS lS kS pD xD lD kD S d w w11) (fun xs ys _ => (intOf ys - intOf xs).toNat)
          case atStart => exact ⟨-9223372036854775808, 9223372036854775807, rfl, rfl, by unfold I64; omega, by unfold I64; omega, by have := HIF.out; unfold I64 at this; omega, by have := HIF.out; unfold I64 at this; omega, HDu.out⟩
          case round =>
            clear HDu hb1 hb1' hb2 hb2'
            obtain ⟨X, Y, rfl, rfl, hX, hY, hXF, hFY, hDu⟩ := hrel
            obtain ⟨cS, dS, sS, cD, dD, sD, RS, RD, B11⟩ := hDu
            have HIX := Lib.hid hX
            have HIY := Lib.hid hY
            obtain ⟨x0, x1⟩ := hX
            obtain ⟨y0, y1⟩ := hY
            by_cases hlt2 : X < Y
            · obtain ⟨a, r, ea, er, e1, r0, r1, r2, r3⟩ := halve X
              obtain ⟨b, t, eb, et, e2, t0, t1, t2, t3⟩ := halve Y
              obtain ⟨c, u, ec, eu, e3, u0, u1, u2, u3⟩ := halve (r + t + 1)
              have E1 := Lib.hid e1
              have E2 := Lib.hid e2
              have E3 := Lib.hid e3
              have ab : -4611686018427387904 ≤ a ∧ a ≤ 4611686018427387903 := by omega
              have bb : -4611686018427387904 ≤ b ∧ b ≤ 4611686018427387903 := by omega
              have cb : -1 ≤ c ∧ c ≤ 1 := by omega
              obtain ⟨ab1, ab2⟩ := ab
              obtain ⟨bb1, bb2⟩ := bb
              obtain ⟨cb1, cb2⟩ := cb
              have hmY : a + b + c ≤ Y := by omega
              have hw : wrap64 (a + b + c) = a + b + c := wrap_in (by unfold I64; omega)
              have hmlo : X - 1 ≤ a + b + c := by omega
              by_cases hmx : a + b + c ≤ X
              · obtain ⟨M, hM⟩ : ∃ M, X + 1 = M := ⟨_, rfl⟩
                have hXM : X < M := by omega
                have hMY : M ≤ Y := by omega
                have hMI : I64 M := by unfold I64; omega
                have fM := Lib.hid (few_i64 hMI)
                obtain ⟨c3, hc3e⟩ : ∃ c, cmp3 (M * d) S = c := ⟨_, rfl⟩
                have hc3 : (c3 ≤ 0) = (M ≤ F) := by
                  rw [← hc3e, ← HFe.out, Int.le_ediv_iff_mul_le hd]; unfold cmp3; apply propext; (repeat' split) <;> omega
                have HC3 := Lib.hid hc3e
                clear hc3e e1 e2 e3 E1 E2 E3 eu r2 r3 t2 t3 u2 u3 u0 u1 u
                by_cases hMF : M ≤ F
                · have hc : c3 ≤ 0 := by rw [hc3]; exact hMF
                  clear hc3
                  go_wp2_with fail
                  with_reducible refine (of_any M hMI _).mono ?_
                  rintro e w12 ⟨⟨vW, rfl, QW⟩, b12⟩
                  have B12 : Below w.heap.size w w12 := on B11 b12
                  have HS12 := (Held.mk cS dS sS).next b12
                  have HD12 := (Held.mk cD dD sD).next b12
                  have RS12 := RS.below b12
                  have RD12 := RD.below b12
                  clear cS dS sS cD dD sD RS RD b12 B11
                  obtain ⟨cS, dS, sS⟩ := HS12
                  obtain ⟨cD, dD, sD⟩ := HD12
                  have RS := RS12
                  clear RS12
                  have RD := RD12
                  clear RD12
                  obtain ⟨pW, xW, lW, kW, rfl, RW⟩ := QW.form
                  go_wp2_with fail
                  with_reducible refine (rmul_rep M d _ _ _ (RW.below (one_below w12 (.cells #[.bool pW, .slice xW lW kW] 24))) (RD.below (one_below w12 (.cells #[.bool pW, .slice xW lW kW] 24))) fM.out fd.out).mono ?_
                  rintro e w13 ⟨⟨vP, rfl, QP⟩, b13⟩
                  have B13 : Below w.heap.size w w13 := on (on B12 (one_below w12 (.cells #[.bool pW, .slice xW lW kW] 24))) b13
                  have HS13 := ((Held.mk cS dS sS).next (one_below w12 (.cells #[.bool pW, .slice xW lW kW] 24))).next b13
                  have HD13 := ((Held.mk cD dD sD).next (one_below w12 (.cells #[.bool pW, .slice xW lW kW] 24))).next b13
                  have HW13 := (held_new w12 pW xW lW kW).next b13
                  have RS13 := (RS.below (one_below w12 (.cells #[.bool pW, .slice xW lW kW] 24))).below b13
                  have RD13 := (RD.below (one_below w12 (.cells #[.bool pW, .slice xW lW kW] 24))).below b13
                  have RW13 := (RW.below (one_below w12 (.cells #[.bool pW, .slice xW lW kW] 24))).below b13
                  clear cS dS sS cD dD sD RS RD RW b13 B12
                  obtain ⟨cS, dS, sS⟩ := HS13
                  obtain ⟨cD, dD, sD⟩ := HD13
                  obtain ⟨cW, dW, sW⟩ := HW13
                  have RS := RS13
                  clear RS13
                  have RD := RD13
                  clear RD13
                  have RW := RW13
                  clear RW13
                  obtain ⟨pP, xP, lP, kP, rfl, RP⟩ := QP.form
                  go_wp2_with fail
                  with_reducible refine (cmp_rep (M * d) S _ _ _ (RP.below (one_below w13 (.cells #[.bool pP, .slice xP lP kP] 24))) (RS.below (one_below w13 (.cells #[.bool pP, .slice xP lP kP] 24)))).mono ?_
                  rintro e w14 ⟨rfl, b14⟩
                  have B14 : Below w.heap.size w w14 := on (on B13 (one_below w13 (.cells #[.bool pP, .slice xP lP kP] 24))) b14
                  have HS14 := ((Held.mk cS dS sS).next (one_below w13 (.cells #[.bool pP, .slice xP lP kP] 24))).next b14
                  have HD14 := ((Held.mk cD dD sD).next (one_below w13 (.cells #[.bool pP, .slice xP lP kP] 24))).next b14
                  have HW14 := ((Held.mk cW dW sW).next (one_below w13 (.cells #[.bool pP, .slice xP lP kP] 24))).next b14
                  have HP14 := (held_new w13 pP xP lP kP).next b14
                  have RS14 := (RS.below (one_below w13 (.cells #[.bool pP, .slice xP lP kP] 24))).below b14
                  have RD14 := (RD.below (one_below w13 (.cells #[.bool pP, .slice xP lP kP] 24))).below b14
                  have RW14 := (RW.below (one_below w13 (.cells #[.bool pP, .slice xP lP kP] 24))).below b14
                  have RP14 := (RP.below (one_below w13 (.cells #[.bool pP, .slice xP lP kP] 24))).below b14
                  clear cS dS sS cD dD sD cW dW sW RS RD RW RP b14 B13
                  obtain ⟨cS, dS, sS⟩ := HS14
                  obtain ⟨cD, dD, sD⟩ := HD14
                  obtain ⟨cW, dW, sW⟩ := HW14
                  obtain ⟨cP, dP, sP⟩ := HP14
                  have RS := RS14
                  clear RS14
                  have RD := RD14
                  clear RD14
                  have RW := RW14
                  clear RW14
                  have RP := RP14
                  clear RP14
                  rw [HC3.out]
                  have HDu := Lib.hid (Duo.mk cS dS sS cD dD sD RS RD B14)
                  clear cS dS sS cD dD sD RS RD cW dW sW RW cP dP sP RP B14
                  go_wp2
                  go_roundw
                  case rel => exact ⟨M, Y, by first | rfl | go_num, rfl, hMI, HIY.out, hMF, hFY, HDu.out⟩
                  case measure => simp [intOf]; omega
                · have hc : ¬ c3 ≤ 0 := by rw [hc3]; exact hMF
                  clear hc3
                  go_wp2_with fail
                  with_reducible refine (of_any M hMI _).mono ?_
                  rintro e w12 ⟨⟨vW, rfl, QW⟩, b12⟩
                  have B12 : Below w.heap.size w w12 := on B11 b12
                  have HS12 := (Held.mk cS dS sS).next b12
                  have HD12 := (Held.mk cD dD sD).next b12
                  have RS12 := RS.below b12
                  have RD12 := RD.below b12
                  clear cS dS sS cD dD sD RS RD b12 B11
                  obtain ⟨cS, dS, sS⟩ := HS12
                  obtain ⟨cD, dD, sD⟩ := HD12
                  have RS := RS12
                  clear RS12
                  have RD := RD12
                  clear RD12
                  obtain ⟨pW, xW, lW, kW, rfl, RW⟩ := QW.form
                  go_wp2_with fail
                  with_reducible refine (rmul_rep M d _ _ _ (RW.below (one_below w12 (.cells #[.bool pW, .slice xW lW kW] 24))) (RD.below (one_below w12 (.cells #[.bool pW, .slice xW lW kW] 24))) fM.out fd.out).mono ?_
                  rintro e w13 ⟨⟨vP, rfl, QP⟩, b13⟩
                  have B13 : Below w.heap.size w w13 := on (on B12 (one_below w12 (.cells #[.bool pW, .slice xW lW kW] 24))) b13
                  have HS13 := ((Held.mk cS dS sS).next (one_below w12 (.cells #[.bool pW, .slice xW lW kW] 24))).next b13
                  have HD13 := ((Held.mk cD dD sD).next (one_below w12 (.cells #[.bool pW, .slice xW lW kW] 24))).next b13
                  have HW13 := (held_new w12 pW xW lW kW).next b13
                  have RS13 := (RS.below (one_below w12 (.cells #[.bool pW, .slice xW lW kW] 24))).below b13
                  have RD13 := (RD.below (one_below w12 (.cells #[.bool pW, .slice xW lW kW] 24))).below b13
                  have RW13 := (RW.below (one_below w12 (.cells #[.bool pW, .slice xW lW kW] 24))).below b13
                  clear cS dS sS cD dD sD RS RD RW b13 B12
                  obtain ⟨cS, dS, sS⟩ := HS13
                  obtain ⟨cD, dD, sD⟩ := HD13
                  obtain ⟨cW, dW, sW⟩ := HW13
                  have RS := RS13
                  clear RS13
                  have RD := RD13
                  clear RD13
                  have RW := RW13
                  clear RW13
                  obtain ⟨pP, xP, lP, kP, rfl, RP⟩ := QP.form
                  go_wp2_with fail
                  with_reducible refine (cmp_rep (M * d) S _ _ _ (RP.below (one_below w13 (.cells #[.bool pP, .slice xP lP kP] 24))) (RS.below (one_below w13 (.cells #[.bool pP, .slice xP lP kP] 24)))).mono ?_
                  rintro e w14 ⟨rfl, b14⟩
                  have B14 : Below w.heap.size w w14 := on (on B13 (one_below w13 (.cells #[.bool pP, .slice xP lP kP] 24))) b14
                  have HS14 := ((Held.mk cS dS sS).next (one_below w13 (.cells #[.bool pP, .slice xP lP kP] 24))).next b14
                  have HD14 := ((Held.mk cD dD sD).next (one_below w13 (.cells #[.bool pP, .slice xP lP kP] 24))).next b14
                  have HW14 := ((Held.mk cW dW sW).next (one_below w13 (.cells #[.bool pP, .slice xP lP kP] 24))).next b14
                  have HP14 := (held_new w13 pP xP lP kP).next b14
                  have RS14 := (RS.below (one_below w13 (.cells #[.bool pP, .slice xP lP kP] 24))).below b14
                  have RD14 := (RD.below (one_below w13 (.cells #[.bool pP, .slice xP lP kP] 24))).below b14
                  have RW14 := (RW.below (one_below w13 (.cells #[.bool pP, .slice xP lP kP] 24))).below b14
                  have RP14 := (RP.below (one_below w13 (.cells #[.bool pP, .slice xP lP kP] 24))).below b14
                  clear cS dS sS cD dD sD cW dW sW RS RD RW RP b14 B13
                  obtain ⟨cS, dS, sS⟩ := HS14
                  obtain ⟨cD, dD, sD⟩ := HD14
                  obtain ⟨cW, dW, sW⟩ := HW14
                  obtain ⟨cP, dP, sP⟩ := HP14
                  have RS := RS14
                  clear RS14
                  have RD := RD14
                  clear RD14
                  have RW := RW14
                  clear RW14
                  have RP := RP14
                  clear RP14
                  rw [HC3.out]
                  have HDu := Lib.hid (Duo.mk cS dS sS cD dD sD RS RD B14)
                  clear cS dS sS cD dD sD RS RD cW dW sW RW cP dP sP RP B14
                  go_wp2
                  go_roundw
                  case rel => exact ⟨X, M - 1, rfl, by first | rfl | go_num, HIX.out, by have := HIX.out; have := HIY.out; unfold I64 at *; omega, hXF, by omega, HDu.out⟩
                  case measure => simp [intOf]; omega
              · obtain ⟨M, hM⟩ : ∃ M, a + b + c = M := ⟨_, rfl⟩
                have hXM : X < M := by omega
                have hMY : M ≤ Y := by omega
                have hMI : I64 M := by unfold I64; omega
                have fM := Lib.hid (few_i64 hMI)
                obtain ⟨c3, hc3e⟩ : ∃ c, cmp3 (M * d) S = c := ⟨_, rfl⟩
                have hc3 : (c3 ≤ 0) = (M ≤ F) := by
                  rw [← hc3e, ← HFe.out, Int.le_ediv_iff_mul_le hd]; unfold cmp3; apply propext; (repeat' split) <;> omega
                have HC3 := Lib.hid hc3e
                clear hc3e e1 e2 e3 E1 E2 E3 eu r2 r3 t2 t3 u2 u3 u0 u1 u
                have hw2 : wrap64 (a + b + c) = M := hw.trans hM
                have hmx2 : ¬ M ≤ X := by omega
                clear hw hM hmx hmY hmlo
                by_cases hMF : M ≤ F
                · have hc : c3 ≤ 0 := by rw [hc3]; exact hMF
                  clear hc3
                  go_wp2_with fail
                  with_reducible refine (of_any M hMI _).mono ?_
                  rintro e w12 ⟨⟨vW, rfl, QW⟩, b12⟩
                  have B12 : Below w.heap.size w w12 := on B11 b12
                  have HS12 := (Held.mk cS dS sS).next b12
                  have HD12 := (Held.mk cD dD sD).next b12
                  have RS12 := RS.below b12
                  have RD12 := RD.below b12
                  clear cS dS sS cD dD sD RS RD b12 B11
                  obtain ⟨cS, dS, sS⟩ := HS12
                  obtain ⟨cD, dD, sD⟩ := HD12
                  have RS := RS12
                  clear RS12
                  have RD := RD12
                  clear RD12
                  obtain ⟨pW, xW, lW, kW, rfl, RW⟩ := QW.form
                  go_wp2_with fail
                  with_reducible refine (rmul_rep M d _ _ _ (RW.below (one_below w12 (.cells #[.bool pW, .slice xW lW kW] 24))) (RD.below (one_below w12 (.cells #[.bool pW, .slice xW lW kW] 24))) fM.out fd.out).mono ?_
                  rintro e w13 ⟨⟨vP, rfl, QP⟩, b13⟩
                  have B13 : Below w.heap.size w w13 := on (on B12 (one_below w12 (.cells #[.bool pW, .slice xW lW kW] 24))) b13
                  have HS13 := ((Held.mk cS dS sS).next (one_below w12 (.cells #[.bool pW, .slice xW lW kW] 24))).next b13
                  have HD13 := ((Held.mk cD dD sD).next (one_below w12 (.cells #[.bool pW, .slice xW lW kW] 24))).next b13
                  have HW13 := (held_new w12 pW xW lW kW).next b13
                  have RS13 := (RS.below (one_below w12 (.cells #[.bool pW, .slice xW lW kW] 24))).below b13
                  have RD13 := (RD.below (one_below w12 (.cells #[.bool pW, .slice xW lW kW] 24))).below b13
                  have RW13 := (RW.below (one_below w12 (.cells #[.bool pW, .slice xW lW kW] 24))).below b13
                  clear cS dS sS cD dD sD RS RD RW b13 B12
                  obtain ⟨cS, dS, sS⟩ := HS13
                  obtain ⟨cD, dD, sD⟩ := HD13
                  obtain ⟨cW, dW, sW⟩ := HW13
                  have RS := RS13
                  clear RS13
                  have RD := RD13
                  clear RD13
                  have RW := RW13
                  clear RW13
                  obtain ⟨pP, xP, lP, kP, rfl, RP⟩ := QP.form
                  go_wp2_with fail
                  with_reducible refine (cmp_rep (M * d) S _ _ _ (RP.below (one_below w13 (.cells #[.bool pP, .slice xP lP kP] 24))) (RS.below (one_below w13 (.cells #[.bool pP, .slice xP lP kP] 24)))).mono ?_
                  rintro e w14 ⟨rfl, b14⟩
                  have B14 : Below w.heap.size w w14 := on (on B13 (one_below w13 (.cells #[.bool pP, .slice xP lP kP] 24))) b14
                  have HS14 := ((Held.mk cS dS sS).next (one_below w13 (.cells #[.bool pP, .slice xP lP kP] 24))).next b14
                  have HD14 := ((Held.mk cD dD sD).next (one_below w13 (.cells #[.bool pP, .slice xP lP kP] 24))).next b14
                  have HW14 := ((Held.mk cW dW sW).next (one_below w13 (.cells #[.bool pP, .slice xP lP kP] 24))).next b14
                  have HP14 := (held_new w13 pP xP lP kP).next b14
                  have RS14 := (RS.below (one_below w13 (.cells #[.bool pP, .slice xP lP kP] 24))).below b14
                  have RD14 := (RD.below (one_below w13 (.cells #[.bool pP, .slice xP lP kP] 24))).below b14
                  have RW14 := (RW.below (one_below w13 (.cells #[.bool pP, .slice xP lP kP] 24))).below b14
                  have RP14 := (RP.below (one_below w13 (.cells #[.bool pP, .slice xP lP kP] 24))).below b14
                  clear cS dS sS cD dD sD cW dW sW RS RD RW RP b14 B13
                  obtain ⟨cS, dS, sS⟩ := HS14
                  obtain ⟨cD, dD, sD⟩ := HD14
                  obtain ⟨cW, dW, sW⟩ := HW14
                  obtain ⟨cP, dP, sP⟩ := HP14
                  have RS := RS14
                  clear RS14
                  have RD := RD14
                  clear RD14
                  have RW := RW14
                  clear RW14
                  have RP := RP14
                  clear RP14
                  rw [HC3.out]
                  have HDu := Lib.hid (Duo.mk cS dS sS cD dD sD RS RD B14)
                  clear cS dS sS cD dD sD RS RD cW dW sW RW cP dP sP RP B14
                  go_wp2
                  go_roundw
                  case rel => exact ⟨M, Y, by first | rfl | go_num, rfl, hMI, HIY.out, hMF, hFY, HDu.out⟩
                  case measure => simp [intOf]; omega
                · have hc : ¬ c3 ≤ 0 := by rw [hc3]; exact hMF
                  clear hc3
                  go_wp2_with fail
                  with_reducible refine (of_any M hMI _).mono ?_
                  rintro e w12 ⟨⟨vW, rfl, QW⟩, b12⟩
                  have B12 : Below w.heap.size w w12 := on B11 b12
                  have HS12 := (Held.mk cS dS sS).next b12
                  have HD12 := (Held.mk cD dD sD).next b12
                  have RS12 := RS.below b12
                  have RD12 := RD.below b12
                  clear cS dS sS cD dD sD RS RD b12 B11
                  obtain ⟨cS, dS, sS⟩ := HS12
                  obtain ⟨cD, dD, sD⟩ := HD12
                  have RS := RS12
                  clear RS12
                  have RD := RD12
                  clear RD12
                  obtain ⟨pW, xW, lW, kW, rfl, RW⟩ := QW.form
                  go_wp2_with fail
                  with_reducible refine (rmul_rep M d _ _ _ (RW.below (one_below w12 (.cells #[.bool pW, .slice xW lW kW] 24))) (RD.below (one_below w12 (.cells #[.bool pW, .slice xW lW kW] 24))) fM.out fd.out).mono ?_
                  rintro e w13 ⟨⟨vP, rfl, QP⟩, b13⟩
                  have B13 : Below w.heap.size w w13 := on (on B12 (one_below w12 (.cells #[.bool pW, .slice xW lW kW] 24))) b13
                  have HS13 := ((Held.mk cS dS sS).next (one_below w12 (.cells #[.bool pW, .slice xW lW kW] 24))).next b13
                  have HD13 := ((Held.mk cD dD sD).next (one_below w12 (.cells #[.bool pW, .slice xW lW kW] 24))).next b13
                  have HW13 := (held_new w12 pW xW lW kW).next b13
                  have RS13 := (RS.below (one_below w12 (.cells #[.bool pW, .slice xW lW kW] 24))).below b13
                  have RD13 := (RD.below (one_below w12 (.cells #[.bool pW, .slice xW lW kW] 24))).below b13
                  have RW13 := (RW.below (one_below w12 (.cells #[.bool pW, .slice xW lW kW] 24))).below b13
                  clear cS dS sS cD dD sD RS RD RW b13 B12
                  obtain ⟨cS, dS, sS⟩ := HS13
                  obtain ⟨cD, dD, sD⟩ := HD13
                  obtain ⟨cW, dW, sW⟩ := HW13
                  have RS := RS13
                  clear RS13
                  have RD := RD13
                  clear RD13
                  have RW := RW13
                  clear RW13
                  obtain ⟨pP, xP, lP, kP, rfl, RP⟩ := QP.form
                  go_wp2_with fail
                  with_reducible refine (cmp_rep (M * d) S _ _ _ (RP.below (one_below w13 (.cells #[.bool pP, .slice xP lP kP] 24))) (RS.below (one_below w13 (.cells #[.bool pP, .slice xP lP kP] 24)))).mono ?_
                  rintro e w14 ⟨rfl, b14⟩
                  have B14 : Below w.heap.size w w14 := on (on B13 (one_below w13 (.cells #[.bool pP, .slice xP lP kP] 24))) b14
                  have HS14 := ((Held.mk cS dS sS).next (one_below w13 (.cells #[.bool pP, .slice xP lP kP] 24))).next b14
                  have HD14 := ((Held.mk cD dD sD).next (one_below w13 (.cells #[.bool pP, .slice xP lP kP] 24))).next b14
                  have HW14 := ((Held.mk cW dW sW).next (one_below w13 (.cells #[.bool pP, .slice xP lP kP] 24))).next b14
                  have HP14 := (held_new w13 pP xP lP kP).next b14
                  have RS14 := (RS.below (one_below w13 (.cells #[.bool pP, .slice xP lP kP] 24))).below b14
                  have RD14 := (RD.below (one_below w13 (.cells #[.bool pP, .slice xP lP kP] 24))).below b14
                  have RW14 := (RW.below (one_below w13 (.cells #[.bool pP, .slice xP lP kP] 24))).below b14
                  have RP14 := (RP.below (one_below w13 (.cells #[.bool pP, .slice xP lP kP] 24))).below b14
                  clear cS dS sS cD dD sD cW dW sW RS RD RW RP b14 B13
                  obtain ⟨cS, dS, sS⟩ := HS14
                  obtain ⟨cD, dD, sD⟩ := HD14
                  obtain ⟨cW, dW, sW⟩ := HW14
                  obtain ⟨cP, dP, sP⟩ := HP14
                  have RS := RS14
                  clear RS14
                  have RD := RD14
                  clear RD14
                  have RW := RW14
                  clear RW14
                  have RP := RP14
                  clear RP14
                  rw [HC3.out]
                  have HDu := Lib.hid (Duo.mk cS dS sS cD dD sD RS RD B14)
                  clear cS dS sS cD dD sD RS RD cW dW sW RW cP dP sP RP B14
                  go_wp2
                  go_roundw
                  case rel => exact ⟨X, M - 1, rfl, by first | rfl | go_num, HIX.out, by have := HIX.out; have := HIY.out; unfold I64 at *; omega, hXF, by omega, HDu.out⟩
                  case measure => simp [intOf]; omega
            · have hXe : X = F := by omega
              have HXe := Lib.hid hXe
              clear hXe
              go_wp2
              go_ret2
              exact ⟨ret_two' (HXe.out.trans HI.out.1.symm) HI.out.2.symm, B11⟩

theorem rfsum_no (d : Int) (x : Option Addr) (len cap : Nat) (w : World) (hd : d ≤ 0) :
    Calls Try.prog 30 #[.int .i64 d, .slice x len cap] w fun e w' => e = .returned (.tuple #[.int .i64 0, .bool false]) ∧ w = w' := by
  go_enter Try.func30, Try.ntmps30
  go_wp2
  go_ret2
  exact ⟨rfl, rfl⟩
end Go.Proofs.Ytbkfmkbjfifgjaa
