/-
  The number that a run of digits is, as the library reads it; how a run and its parts stand to one another.
-/
import Derived.Test.YtbadingdklenhaaGreatDoorLexRun
namespace Go.Proofs.YtbadingdklenhaaGreatDoor
open Go

def fold (n : Nat) (l : List UInt8) : Nat := l.foldl (fun n b => 10 * n + (b.toNat - 48)) n
theorem fold_ge : ∀ (l : List UInt8) (n : Nat), n ≤ fold n l
  | [], n => Nat.le_refl _
  | b :: l, n => Nat.le_trans (by omega) (fold_ge l (10 * n + (b.toNat - 48)))
theorem isD_num {b : UInt8} : isD b = true ↔ 48 ≤ b.toNat ∧ b.toNat ≤ 57 := by
  unfold isD
  simp only [Bool.and_eq_true, decide_eq_true_eq]
theorem parseM : ∀ (l : List UInt8) (n : Nat), l.all isD = true → Lib.parseUintM 18446744073709551615 n l = if fold n l ≤ 18446744073709551615 ∨ l = [] then .ok (fold n l) else .range
  | [], n, _ => by rw [if_pos (.inr rfl)]; rfl
  | b :: l, n, h => by
    simp only [List.all_cons, Bool.and_eq_true] at h
    have hb := isD_num.1 h.1
    have hg := fold_ge l (10 * n + (b.toNat - 48))
    have e : fold n (b :: l) = fold (10 * n + (b.toNat - 48)) l := rfl
    unfold Lib.parseUintM
    rw [if_pos hb]
    by_cases h1 : 1844674407370955162 ≤ n
    · rw [if_pos h1, if_neg]
      rintro (h2 | h2)
      · rw [e] at h2; omega
      · cases h2
    · rw [if_neg h1]
      by_cases h2 : 18446744073709551615 < n * 10 + (b.toNat - 48)
      · rw [if_pos h2, if_neg]
        rintro (h3 | h3)
        · rw [e] at h3; omega
        · cases h3
      · rw [if_neg h2, show n * 10 + (b.toNat - 48) = 10 * n + (b.toNat - 48) by omega, parseM l _ h.2, e]
        by_cases h3 : l = []
        · subst h3
          rw [if_pos (.inr rfl), if_pos (.inl (by show 10 * n + (b.toNat - 48) ≤ _; omega))]
        · by_cases h4 : fold (10 * n + (b.toNat - 48)) l ≤ 18446744073709551615
          · rw [if_pos (.inl h4), if_pos (.inl h4)]
          · rw [if_neg (by rintro (h5 | h5); exact h4 h5; exact h3 h5), if_neg (by rintro (h5 | h5); exact h4 h5; cases h5)]
theorem unsg_minus (r : List UInt8) : unsg (45 :: r) = r ∧ Lib.hasPrefix (45 :: r) [45] = true := by
  have e : Lib.hasPrefix (45 :: r) [45] = true := by unfold Lib.hasPrefix; simp [List.isPrefixOf]
  exact ⟨by unfold unsg Lib.trimPrefix; rw [if_pos e]; rfl, e⟩
theorem unsg_plain {c : UInt8} {r : List UInt8} (h : c ≠ 45) : unsg (c :: r) = c :: r ∧ Lib.hasPrefix (c :: r) [45] = false := by
  have e : Lib.hasPrefix (c :: r) [45] = false := by unfold Lib.hasPrefix; simp [List.isPrefixOf, Ne.symm h]
  exact ⟨by unfold unsg Lib.trimPrefix; rw [e]; rfl, e⟩
theorem unsg_nil : unsg [] = [] ∧ Lib.hasPrefix [] [45] = false := ⟨rfl, rfl⟩
theorem parseB {l : List UInt8} (h : l.all isD = true) (h0 : l ≠ []) : Lib.parseUintB 64 l = if dv l ≤ 18446744073709551615 then .ok (dv l) else .range := by
  unfold Lib.parseUintB
  rw [if_neg h0]
  show Lib.parseUintM 18446744073709551615 0 l = _
  rw [parseM l 0 h]
  by_cases h1 : fold 0 l ≤ 18446744073709551615
  · rw [if_pos (.inl h1)]
    show _ = if fold 0 l ≤ _ then _ else _
    rw [if_pos h1]
    rfl
  · rw [if_neg (by rintro (h2 | h2); exact h1 h2; exact h0 h2)]
    show _ = if fold 0 l ≤ _ then _ else _
    rw [if_neg h1]
theorem parse_val {w : List UInt8} (h0 : unsg w ≠ []) (h : (unsg w).all isD = true) :
    Lib.parseIntB 64 w = if -9223372036854775808 ≤ valW w ∧ valW w ≤ 9223372036854775807 then .ok (valW w) else .range := by
  cases w with
  | nil => exact absurd rfl h0
  | cons c r =>
    by_cases hc : c = 45
    · subst hc
      obtain ⟨e1, e2⟩ := unsg_minus r
      rw [e1] at h0 h
      have ev : valW (45 :: r) = -(dv r : Int) := by unfold valW; rw [e2, e1]; rfl
      unfold Lib.parseIntB
      rw [ev]
      simp only [show (45 : UInt8).toNat = 45 from rfl, or_true, if_true, not_true_eq_false, false_and, if_false, true_and]
      rw [parseB h h0]
      by_cases h1 : dv r ≤ 18446744073709551615
      · rw [if_pos h1]
        simp only
        by_cases h2 : 2 ^ (64 - 1) < dv r
        · rw [if_pos h2, if_neg (by omega)]
        · rw [if_neg h2, if_pos (by omega)]
      · rw [if_neg h1, if_neg (by omega)]
    · obtain ⟨e1, e2⟩ := unsg_plain (r := r) hc
      rw [e1] at h0 h
      have ev : valW (c :: r) = (dv (c :: r) : Int) := by unfold valW; rw [e2]; rfl
      have hd : 48 ≤ c.toNat ∧ c.toNat ≤ 57 := by
        simp only [List.all_cons, Bool.and_eq_true] at h
        exact isD_num.1 h.1
      unfold Lib.parseIntB
      rw [ev]
      have n1 : ¬ (c.toNat = 43) := by omega
      have n2 : ¬ (c.toNat = 45) := by omega
      simp only [n1, n2, or_false, not_false_eq_true, true_and, false_and, if_false]
      rw [parseB h h0]
      by_cases h1 : dv (c :: r) ≤ 18446744073709551615
      · rw [if_pos h1]
        simp only
        by_cases h2 : 2 ^ (64 - 1) ≤ dv (c :: r)
        · rw [if_pos h2, if_neg (by omega)]
        · rw [if_neg h2, if_pos (by omega)]
      · rw [if_neg h1, if_neg (by omega)]

/-! ### how rd answers -/
theorem rd_word {w : List UInt8} (h : w.all isL = true) (hl : w.length ≤ 32) : rd w = (0, 0, 0) := by unfold rd; rw [if_pos h, if_pos hl]
theorem all_ne {w : List UInt8} (h0 : unsg w ≠ []) (h : w.all isL = true) : (unsg w).all isD = false := by
  cases w with
  | nil => exact absurd rfl h0
  | cons c r =>
    simp only [List.all_cons, Bool.and_eq_true] at h
    have hc : c ≠ 45 := by rintro rfl; exact absurd h.1 (by decide)
    rw [(unsg_plain hc).1]
    have : isD c = false := by
      have h1 := h.1
      unfold isL at h1
      unfold isD
      simp only [Bool.and_eq_true, decide_eq_true_eq] at h1
      simp
      omega
    simp [this]
theorem rd_mixed {w : List UInt8} (h1 : ¬ (w.all isL = true ∧ w.length ≤ 32)) (h2 : (unsg w).all isD = false) : rd w = (21, 0, 0) := by
  unfold rd
  by_cases h : w.all isL = true
  · rw [if_pos h, if_neg (fun hl => h1 ⟨h, hl⟩)]
  · rw [if_neg h, h2]; rfl
theorem rd_num {w : List UInt8} (h0 : unsg w ≠ []) (h2 : (unsg w).all isD = true) : rd w = if -9223372036854775808 ≤ valW w ∧ valW w ≤ 9223372036854775807 then (0, 1, valW w) else (5, 0, 0) := by
  have h : ¬ (w.all isL = true) := fun h => by rw [all_ne h0 h] at h2; cases h2
  unfold rd
  rw [if_neg h, if_pos h2]
end Go.Proofs.YtbadingdklenhaaGreatDoor
