/-
  Digits: what the document's Number reads; what the library's ParseInt reads of what it writes.
-/
import Derived.Test.YtjaabjehegcnaaaDoorSignMath
import Derived.Lib.ParseIntB
import Derived.Lib.ItoaMem
namespace Go.Proofs.YtjaabjehegcnaaaDoor
open Go

def In64 (a : Int) : Prop := -9223372036854775808 ≤ a ∧ a ≤ 9223372036854775807
instance (a : Int) : Decidable (In64 a) := inferInstanceAs (Decidable (_ ∧ _))
/-- The number behind one digit more. -/
def more (neg : Bool) (n : Int) (d : Nat) : Int := if neg = true then 10 * n - d else 10 * n + d
/-- Digit by digit; none: it is refused. -/
def nstep (neg : Bool) : List UInt8 → Int → Option Int
  | [], n => some n
  | b :: r, n => if 48 ≤ b.toNat ∧ b.toNat ≤ 57 then (if In64 (more neg n (b.toNat - 48)) then nstep neg r (more neg n (b.toNat - 48)) else none) else none
def negB (l : List UInt8) : Bool := l.head?.map (·.toNat) == some 45
def nrest (l : List UInt8) : List UInt8 := if negB l = true then l.tail else l
def nread (l : List UInt8) : Option Int := nstep (negB l) (nrest l) 0
/-- The document's Number. -/
def nmN (l : List UInt8) : Int := match nread l with | some n => n | none => 0
def nmB (l : List UInt8) : Bool := match nread l with | some n => decide (Lib.itoa n = l) | none => false
theorem nm_some {l : List UInt8} {n : Int} (h : nread l = some n) : nmN l = n ∧ nmB l = decide (Lib.itoa n = l) := by unfold nmN nmB; rw [h]; simp
theorem nm_none {l : List UInt8} (h : nread l = none) : nmN l = 0 ∧ nmB l = false := by unfold nmN nmB; rw [h]; simp
theorem nm_yes {l : List UInt8} (h : nmB l = true) : Lib.itoa (nmN l) = l := by
  cases hr : nread l with
  | none => rw [(nm_none hr).2] at h; cases h
  | some n =>
    obtain ⟨h1, h2⟩ := nm_some hr
    rw [h2] at h
    rw [h1]; exact of_decide_eq_true h

def vf (a : Nat) (l : List UInt8) : Nat := l.foldl (fun a b => 10 * a + (b.toNat - 48)) a
theorem vf_cons (a : Nat) (b : UInt8) (l : List UInt8) : vf a (b :: l) = vf (10 * a + (b.toNat - 48)) l := by unfold vf; rw [List.foldl_cons]
theorem vf_ge (a : Nat) (l : List UInt8) : a ≤ vf a l := foldl_ge l a
theorem vf_zero (l : List UInt8) : vf 0 l = valD l := rfl

theorem nstep_pos (l : List UInt8) : ∀ a : Nat, (∀ b ∈ l, 48 ≤ b.toNat ∧ b.toNat ≤ 57) → vf a l ≤ 9223372036854775807 → nstep false l (a : Int) = some ((vf a l : Nat) : Int) := by
  induction l with
  | nil => intro a _ _; rfl
  | cons b r ih =>
    intro a hd hv
    have h1 := hd b (by simp)
    rw [vf_cons] at hv
    have h2 := vf_ge (10 * a + (b.toNat - 48)) r
    have hm : more false (a : Int) (b.toNat - 48) = ((10 * a + (b.toNat - 48) : Nat) : Int) := by unfold more; rw [if_neg (by decide)]; omega
    have h3 : In64 ((10 * a + (b.toNat - 48) : Nat) : Int) := by unfold In64; omega
    rw [nstep, if_pos h1, hm, if_pos h3, vf_cons]
    exact ih _ (fun c hc => hd c (by simp [hc])) hv
theorem nstep_neg (l : List UInt8) : ∀ a : Nat, (∀ b ∈ l, 48 ≤ b.toNat ∧ b.toNat ≤ 57) → vf a l ≤ 9223372036854775808 → nstep true l (-(a : Int)) = some (-((vf a l : Nat) : Int)) := by
  induction l with
  | nil => intro a _ _; rfl
  | cons b r ih =>
    intro a hd hv
    have h1 := hd b (by simp)
    rw [vf_cons] at hv
    have h2 := vf_ge (10 * a + (b.toNat - 48)) r
    have hm : more true (-(a : Int)) (b.toNat - 48) = -((10 * a + (b.toNat - 48) : Nat) : Int) := by unfold more; rw [if_pos rfl]; omega
    have h3 : In64 (-((10 * a + (b.toNat - 48) : Nat) : Int)) := by unfold In64; omega
    rw [nstep, if_pos h1, hm, if_pos h3, vf_cons]
    exact ih _ (fun c hc => hd c (by simp [hc])) hv
theorem dec_head (u : Nat) : ∃ b r, Lib.decDigits u = b :: r ∧ 48 ≤ b.toNat ∧ b.toNat ≤ 57 := by
  have h := dec_digits u
  cases hl : Lib.decDigits u with
  | nil =>
    exfalso
    by_cases hu : u < 10
    · rw [dec_lt hu] at hl; cases hl
    · rw [dec_step hu] at hl; simp at hl
  | cons b r => exact ⟨b, r, rfl, h b (by rw [hl]; simp)⟩
/-- Number of what is written is that. -/
theorem nread_itoa (m : Int) (hm : In64 m) : nread (Lib.itoa m) = some m := by
  obtain ⟨h0, h1⟩ := hm
  by_cases h : 0 ≤ m
  · obtain ⟨u, rfl⟩ := Int.eq_ofNat_of_zero_le h
    rw [Lib.itoa_nonneg]
    obtain ⟨b, r, e, b1, b2⟩ := dec_head u
    have hn : negB (Lib.decDigits u) = false := by unfold negB; rw [e]; simp; omega
    unfold nread nrest
    rw [hn]
    simp only [Bool.false_eq_true, if_false]
    have := nstep_pos (Lib.decDigits u) 0 (dec_digits u) (by rw [vf_zero, valD_dec]; omega)
    rw [vf_zero, valD_dec] at this
    exact this
  · obtain ⟨u, rfl⟩ : ∃ u : Nat, m = -(u : Int) := ⟨(-m).toNat, by omega⟩
    rw [Lib.itoa_neg u (by omega)]
    have hn : negB (45 :: Lib.decDigits u) = true := by unfold negB; rfl
    unfold nread nrest
    rw [hn]
    simp only [if_true, List.tail_cons]
    have := nstep_neg (Lib.decDigits u) 0 (dec_digits u) (by rw [vf_zero, valD_dec]; omega)
    rw [vf_zero, valD_dec] at this
    simpa using this
theorem nm_itoa (m : Int) (hm : In64 m) : nmN (Lib.itoa m) = m ∧ nmB (Lib.itoa m) = true := by
  obtain ⟨h1, h2⟩ := nm_some (nread_itoa m hm)
  exact ⟨h1, by rw [h2]; simp⟩
theorem nstep_in (neg : Bool) : ∀ (l : List UInt8) (n v : Int), In64 n → nstep neg l n = some v → In64 v
  | [], n, v, hn, h => by rw [nstep] at h; injection h with h; rw [← h]; exact hn
  | b :: r, n, v, hn, h => by
    rw [nstep] at h
    split at h
    · split at h
      · exact nstep_in neg r _ v (by assumption) h
      · cases h
    · cases h
theorem nm_in (l : List UInt8) : In64 (nmN l) := by
  cases hr : nread l with
  | none => rw [(nm_none hr).1]; exact ⟨by decide, by decide⟩
  | some n => rw [(nm_some hr).1]; exact nstep_in _ _ 0 n ⟨by decide, by decide⟩ hr

/-- ParseInt of what is written is that. -/
theorem parseUint_digits (l : List UInt8) : ∀ a : Nat, (∀ b ∈ l, 48 ≤ b.toNat ∧ b.toNat ≤ 57) → vf a l ≤ 9223372036854775808 → Lib.parseUintM (2 ^ 64 - 1) a l = .ok (vf a l) := by
  induction l with
  | nil => intro a _ _; rfl
  | cons b r ih =>
    intro a hd hv
    have h1 := hd b (by simp)
    rw [vf_cons] at hv
    have h2 := vf_ge (10 * a + (b.toNat - 48)) r
    rw [Lib.parseUintM, if_pos h1, if_neg (by omega), if_neg (by omega), vf_cons, Nat.mul_comm a 10]
    exact ih _ (fun c hc => hd c (by simp [hc])) hv
theorem e63 : (2 : Nat) ^ (64 - 1) = 9223372036854775808 := rfl
theorem parseInt_itoa (m : Int) (hm : In64 m) : Lib.parseIntB 64 (Lib.itoa m) = .ok m := by
  obtain ⟨h0, h1⟩ := hm
  by_cases h : 0 ≤ m
  · obtain ⟨u, rfl⟩ := Int.eq_ofNat_of_zero_le h
    rw [Lib.itoa_nonneg]
    have hp := parseUint_digits (Lib.decDigits u) 0 (dec_digits u) (by rw [vf_zero, valD_dec]; omega)
    rw [vf_zero, valD_dec] at hp
    obtain ⟨b, r, e, b1, b2⟩ := dec_head u
    rw [e] at hp ⊢
    unfold Lib.parseIntB
    simp only
    rw [if_neg (by omega)]
    have hq : Lib.parseUintB 64 (b :: r) = .ok u := by unfold Lib.parseUintB; rw [if_neg (by simp)]; exact hp
    rw [hq]
    simp only [e63]
    rw [if_neg (by omega), if_neg (by omega), if_neg (by omega)]
  · obtain ⟨u, rfl⟩ : ∃ u : Nat, m = -(u : Int) := ⟨(-m).toNat, by omega⟩
    rw [Lib.itoa_neg u (by omega)]
    have hp := parseUint_digits (Lib.decDigits u) 0 (dec_digits u) (by rw [vf_zero, valD_dec]; omega)
    rw [vf_zero, valD_dec] at hp
    obtain ⟨b, r, e, b1, b2⟩ := dec_head u
    have hq : Lib.parseUintB 64 (Lib.decDigits u) = .ok u := by unfold Lib.parseUintB; rw [if_neg (by rw [e]; simp)]; exact hp
    unfold Lib.parseIntB
    have e45 : (45 : UInt8).toNat = 45 := rfl
    simp only [e45, e63]
    rw [if_pos (Or.inr trivial), hq]
    simp only
    rw [if_neg (fun h => h.1 trivial), if_neg (fun h => by have := h.2; omega), if_pos trivial]
theorem itoa_no47 (m : Int) : ∀ b ∈ Lib.itoa m, b.toNat ≠ 47 := by
  intro b hb
  by_cases h : 0 ≤ m
  · obtain ⟨u, rfl⟩ := Int.eq_ofNat_of_zero_le h
    rw [Lib.itoa_nonneg] at hb
    have := dec_digits u b hb; omega
  · obtain ⟨u, rfl⟩ : ∃ u : Nat, m = -(u : Int) := ⟨(-m).toNat, by omega⟩
    rw [Lib.itoa_neg u (by omega)] at hb
    rcases List.mem_cons.1 hb with rfl | hb
    · decide
    · have := dec_digits u b hb; omega
theorem itoa_ne (m : Int) : Lib.itoa m ≠ [] := by
  by_cases h : 0 ≤ m
  · obtain ⟨u, rfl⟩ := Int.eq_ofNat_of_zero_le h
    rw [Lib.itoa_nonneg]
    obtain ⟨b, r, e, _⟩ := dec_head u
    rw [e]; simp
  · obtain ⟨u, rfl⟩ : ∃ u : Nat, m = -(u : Int) := ⟨(-m).toNat, by omega⟩
    rw [Lib.itoa_neg u (by omega)]; simp
end Go.Proofs.YtjaabjehegcnaaaDoor
