/-
  Plain mathematics for the simplest ratio between two: part by part of a chain.
-/
import Derived.Test.YtjaabjehegcnaaaDoorRatioMath2
namespace Go.Proofs.YtjaabjehegcnaaaDoor
open Go.RowKit

/-- The simplest ratio from an/ad to bn/bd, both above 0. -/
def btw : Nat → Int → Int → Int → Int → Int × Int
  | 0, _, _, _, _ => (0, 1)
  | f + 1, an, ad, bn, bd =>
    if ad = 1 then (an, ad)
    else if an / ad < bn / bd then (an / ad + 1, 1)
    else ((an / ad) * (btw f bd (bn % bd) ad (an % ad)).1 + (btw f bd (bn % bd) ad (an % ad)).2, (btw f bd (bn % bd) ad (an % ad)).1)

/-- Good, above 0, and in order. -/
structure Fits (an ad bn bd : Int) : Prop where
  mk ::
  a0 : 0 < an
  b0 : 0 < bn
  ga : goodB an ad = true
  gb : goodB bn bd = true
  le : an * bd ≤ bn * ad

theorem Fits.ad0 {an ad bn bd : Int} (h : Fits an ad bn bd) : 0 < ad := (good_out h.ga).1
theorem Fits.bd0 {an ad bn bd : Int} (h : Fits an ad bn bd) : 0 < bd := (good_out h.gb).1

theorem div_parts {n d : Int} (_h : 0 < d) : n = d * (n / d) + n % d := (Int.mul_ediv_add_emod n d).symm
theorem mod_pos_of_good {n d : Int} (h : goodB n d = true) (hd : d ≠ 1) : 0 < n % d := by
  obtain ⟨d0, g⟩ := good_out h
  have h0 := Int.emod_nonneg n (show d ≠ 0 by omega)
  have hne : n % d ≠ 0 := fun e => by
    have hd2 : d ∣ n := Int.dvd_of_emod_eq_zero e
    have : (n.gcd d : Int) = d.natAbs := by rw [Int.gcd_eq_right_iff_dvd (by omega) |>.2 hd2]; omega
    omega
  omega
theorem good_flip {n d : Int} (h : goodB n d = true) (hm : 0 < n % d) : goodB d (n % d) = true := by
  obtain ⟨d0, g⟩ := good_out h
  refine good_in hm ?_
  have e := Int.gcd_add_mul_left_left d (n % d) (n / d)
  rw [Int.emod_add_mul_ediv] at e
  rw [Int.gcd_comm, ← e]
  exact g

/-- Where both have the same whole part, what is turned round fits again. -/
theorem Fits.turn {an ad bn bd : Int} (h : Fits an ad bn bd) (h1 : ad ≠ 1) (h2 : ¬ an / ad < bn / bd) : an / ad = bn / bd ∧ 0 < an % ad ∧ 0 < bn % bd ∧ Fits bd (bn % bd) ad (an % ad) := by
  have a0 := h.ad0
  have b0 := h.bd0
  have e1 := div_parts (n := an) a0
  have e2 := div_parts (n := bn) b0
  have m1 := mod_pos_of_good h.ga h1
  have m2 := Int.emod_lt_of_pos an a0
  have m3 := Int.emod_nonneg bn (show bd ≠ 0 by omega)
  have le := h.le
  -- the whole parts
  have hw : an / ad ≤ bn / bd := by
    apply Int.le_ediv_of_mul_le b0
    have h3 : an / ad * ad ≤ an := Int.ediv_mul_le an (by omega)
    have h4 : an / ad * bd * ad ≤ bn * ad := by
      have : an / ad * ad * bd ≤ an * bd := Int.mul_le_mul_of_nonneg_right h3 (by omega)
      rw [Int.mul_assoc, Int.mul_comm bd ad, ← Int.mul_assoc]
      omega
    exact Int.le_of_mul_le_mul_right h4 a0
  have hwe : an / ad = bn / bd := by omega
  have key : an % ad * bd ≤ bn % bd * ad := by
    generalize an % ad = ra at *
    generalize bn % bd = rb at *
    rw [← hwe] at e2
    generalize an / ad = q at *
    rw [e1, e2, Int.add_mul, Int.add_mul, Int.mul_assoc ad q bd, Int.mul_assoc bd q ad, Int.mul_comm bd (q * ad), Int.mul_assoc q ad bd, Int.mul_left_comm ad q bd] at le
    omega
  have m4 : 0 < bn % bd := by
    have hne : bn % bd ≠ 0 := fun e => by
      rw [e, Int.zero_mul] at key
      have := Int.mul_pos m1 b0
      omega
    omega
  refine ⟨hwe, m1, m4, ⟨b0, a0, good_flip h.gb m4, good_flip h.ga m1, ?_⟩⟩
  rw [Int.mul_comm, Int.mul_comm ad]
  exact key

/-- What the answer is: good, from the one to the other, with the least Num and Den of all that are. -/
structure Simple (an ad bn bd n d : Int) : Prop where
  mk ::
  n0 : 0 < n
  good : goodB n d = true
  low : an * d ≤ n * ad
  high : n * bd ≤ bn * d
  least : ∀ x k : Int, 0 < k → an * k ≤ x * ad → x * bd ≤ bn * k → n ≤ x ∧ d ≤ k

theorem mul_le_cancel {d x y : Int} (hd : 0 < d) (h : x * d ≤ y * d) : x ≤ y := Int.le_of_mul_le_mul_right h hd

theorem btw_simple : ∀ (f : Nat) (an ad bn bd : Int), Fits an ad bn bd → ad + bd ≤ f → Simple an ad bn bd (btw f an ad bn bd).1 (btw f an ad bn bd).2 := by
  intro f
  induction f with
  | zero => intro an ad bn bd h h1; have := h.ad0; have := h.bd0; omega
  | succ f ih =>
    intro an ad bn bd h hf
    have a0 := h.ad0
    have b0 := h.bd0
    have e1 := div_parts (n := an) a0
    have e2 := div_parts (n := bn) b0
    unfold btw
    by_cases h1 : ad = 1
    · rw [if_pos h1]
      refine ⟨h.a0, h.ga, Int.le_refl _, h.le, fun x k k0 hx hy => ⟨?_, by omega⟩⟩
      rw [h1, Int.mul_one] at hx
      have : an * 1 ≤ an * k := Int.mul_le_mul_of_nonneg_left (by omega) (by have := h.a0; omega)
      omega
    · rw [if_neg h1]
      have m1 := mod_pos_of_good h.ga h1
      have m2 := Int.emod_lt_of_pos an a0
      have w0 : 0 ≤ an / ad := Int.ediv_nonneg (by have := h.a0; omega) (by omega)
      -- nothing from a on lies at or below the whole part
      have above : ∀ x k : Int, 0 < k → an * k ≤ x * ad → an / ad * k < x := fun x k k0 hx => by
        refine Int.not_le.1 fun hc => ?_
        have h5 : x * ad ≤ an / ad * k * ad := Int.mul_le_mul_of_nonneg_right hc (by omega)
        have h6 : an * k = an / ad * k * ad + an % ad * k := by
          rw [show an * k = (ad * (an / ad) + an % ad) * k by rw [← e1], Int.add_mul, Int.mul_comm ad, Int.mul_assoc, Int.mul_comm ad k, ← Int.mul_assoc]
        have h7 := Int.mul_pos m1 k0
        omega
      by_cases h2 : an / ad < bn / bd
      · rw [if_pos h2]
        refine ⟨by show (0 : Int) < an / ad + 1; omega, good_in (by show (0 : Int) < 1; omega) (by simp), ?_, ?_, fun x k k0 hx hy => ⟨?_, by show (1 : Int) ≤ k; omega⟩⟩
        · show an * 1 ≤ (an / ad + 1) * ad
          rw [Int.add_mul, Int.mul_comm (an / ad)]; omega
        · show (an / ad + 1) * bd ≤ bn * 1
          have h3 : (an / ad + 1) * bd ≤ bn / bd * bd := Int.mul_le_mul_of_nonneg_right (by omega) (by omega)
          have h4 : bn / bd * bd ≤ bn := Int.ediv_mul_le bn (by omega)
          omega
        · show an / ad + 1 ≤ x
          have h3 := above x k k0 hx
          have h4 : an / ad * 1 ≤ an / ad * k := Int.mul_le_mul_of_nonneg_left (by omega) w0
          omega
      · rw [if_neg h2]
        obtain ⟨hwe, p1, p2, hT⟩ := h.turn h1 h2
        have m4 := Int.emod_lt_of_pos bn b0
        have hI := ih bd (bn % bd) ad (an % ad) hT (by omega)
        generalize (btw f bd (bn % bd) ad (an % ad)).1 = r1 at *
        generalize (btw f bd (bn % bd) ad (an % ad)).2 = r2 at *
        obtain ⟨r0, rg, rl, rh, rm⟩ := hI
        obtain ⟨s0, sg⟩ := good_out rg
        rw [← hwe] at e2
        generalize hq : an / ad = q at *
        generalize hra : an % ad = ra at *
        generalize hrb : bn % bd = rb at *
        clear hq hra hrb
        refine ⟨?_, ?_, ?_, ?_, ?_⟩
        · show 0 < q * r1 + r2
          have := Int.mul_nonneg w0 (show 0 ≤ r1 by omega)
          omega
        · refine good_in r0 ?_
          show (q * r1 + r2).gcd r1 = 1
          rw [Int.add_comm, Int.gcd_add_mul_right_left, Int.gcd_comm]
          exact sg
        · show an * r1 ≤ (q * r1 + r2) * ad
          rw [e1, Int.add_mul, Int.add_mul, Int.mul_comm ad q, Int.mul_assoc q ad r1, Int.mul_assoc q r1 ad, Int.mul_comm ad r1]
          have : ra * r1 ≤ r2 * ad := by rw [Int.mul_comm ra, Int.mul_comm r2]; exact rh
          omega
        · show (q * r1 + r2) * bd ≤ bn * r1
          rw [e2, Int.add_mul, Int.add_mul, Int.mul_comm bd q, Int.mul_assoc q bd r1, Int.mul_assoc q r1 bd, Int.mul_comm bd r1]
          have : r2 * bd ≤ rb * r1 := by rw [Int.mul_comm r2, Int.mul_comm rb]; exact rl
          omega
        · intro x k k0 hx hy
          show q * r1 + r2 ≤ x ∧ r1 ≤ k
          have h3 := above x k k0 hx
          obtain ⟨y, hyx⟩ : ∃ y, x = q * k + y := ⟨x - q * k, by omega⟩
          subst hyx
          have y0 : 0 < y := by omega
          have u1 : ra * k ≤ y * ad := by
            rw [e1, Int.add_mul, Int.add_mul, Int.mul_comm ad q, Int.mul_assoc q ad k, Int.mul_assoc q k ad, Int.mul_comm ad k] at hx
            omega
          have u2 : y * bd ≤ rb * k := by
            rw [e2, Int.add_mul, Int.add_mul, Int.mul_comm bd q, Int.mul_assoc q bd k, Int.mul_assoc q k bd, Int.mul_comm bd k] at hy
            omega
          obtain ⟨v1, v2⟩ := rm k y y0 (by rw [Int.mul_comm, Int.mul_comm k]; exact u2) (by rw [Int.mul_comm, Int.mul_comm ad]; exact u1)
          have v3 : q * r1 ≤ q * k := Int.mul_le_mul_of_nonneg_left v1 w0
          exact ⟨by omega, v1⟩
end Go.Proofs.YtjaabjehegcnaaaDoor
