/-
  The document's Parse and the program's say the same: the good ratio whose signs a text is.
-/
import Derived.Test.YtjaabjehegcnaaaDoorSignMath2
import Derived.Test.YtjaabjehegcnaaaDoorParseWalks
namespace Go.Proofs.YtjaabjehegcnaaaDoor
open Go

theorem ib_none : ∀ {l : List UInt8}, (∀ b ∈ l, b.toNat ≠ 47) → Lib.indexByte l 47 = -1 := by
  intro l h
  by_cases h1 : Lib.indexByte l 47 < 0
  · have := Lib.indexByte_ge l 47; omega
  · obtain ⟨i, hi⟩ := Int.eq_ofNat_of_zero_le (show 0 ≤ Lib.indexByte l 47 by omega)
    obtain ⟨h2, _⟩ := Lib.indexByte_some hi
    have h3 := h 47 (List.mem_of_getElem? h2)
    exact absurd rfl h3
theorem ib_at {A B : List UInt8} (h : ∀ b ∈ A, b.toNat ≠ 47) : Lib.indexByte (A ++ 47 :: B) 47 = (A.length : Int) := by
  induction A with
  | nil => rfl
  | cons a A ih =>
    have ha : (a == 47) = false := by
      have := h a (by simp)
      simp only [beq_eq_false_iff_ne]
      rintro rfl
      exact this rfl
    have hi := ih fun b hb => h b (by simp [hb])
    rw [List.cons_append, Lib.indexByte, ha, hi]
    have hne : (((A.length : Int)) == -1) = false := by simp
    rw [hne]
    simp
theorem drop_behind (A : List UInt8) (b : UInt8) (B : List UInt8) : (A ++ b :: B).drop (A.length + 1) = B := by
  induction A with
  | nil => rfl
  | cons a A _ => simp
/-- The document's Parse. -/
def rprs (l : List UInt8) : Option (Int × Int) := if nmB (topOf l) = true ∧ nmB (botOf l) = true ∧ txt (nmN (topOf l)) (nmN (botOf l)) = l then some (nmN (topOf l), nmN (botOf l)) else none

theorem pieces_txt {n d : Int} (hg : goodB n d = true) : topOf (txt n d) = Lib.itoa n ∧ botOf (txt n d) = Lib.itoa d := by
  unfold txt
  rw [if_pos hg]
  by_cases h1 : d = 1
  · rw [if_pos h1, h1]
    have hb := ib_none (itoa_no47 n)
    unfold topOf botOf
    rw [if_pos hb, if_pos hb]
    exact ⟨rfl, by rw [show (1 : Int) = ((1 : Nat) : Int) from rfl, Lib.itoa_nonneg, dec_lt (by omega)]; rfl⟩
  · rw [if_neg h1]
    have hb := ib_at (B := Lib.itoa d) (itoa_no47 n)
    unfold topOf botOf
    rw [hb, if_neg (by omega), if_neg (by omega), Int.toNat_natCast]
    refine ⟨by simp, ?_⟩
    exact drop_behind _ _ _
theorem both_some {l : List UInt8} {n d : Int} (hg : goodB n d = true) (hn : In64 n) (hd : In64 d) (ht : txt n d = l) : prs l = some (n, d) ∧ rprs l = some (n, d) := by
  obtain ⟨h1, h2⟩ := pieces_txt hg
  rw [ht] at h1 h2
  constructor
  · unfold prs
    rw [h1, h2, parseInt_itoa n hn, parseInt_itoa d hd]
    simp [ht]
  · obtain ⟨a1, a2⟩ := nm_itoa n hn
    obtain ⟨b1, b2⟩ := nm_itoa d hd
    unfold rprs
    rw [h1, h2, a1, a2, b1, b2, if_pos ⟨rfl, rfl, ht⟩]
theorem txt_bad {n d : Int} (h : goodB n d = false) : txt n d = [] := by unfold txt; rw [h]; simp
theorem top_nil : topOf [] = [] := by decide
theorem rprs_eq (l : List UInt8) : rprs l = prs l := by
  by_cases h : ∃ n d, goodB n d = true ∧ In64 n ∧ In64 d ∧ txt n d = l
  · obtain ⟨n, d, h1, h2, h3, h4⟩ := h
    obtain ⟨e1, e2⟩ := both_some h1 h2 h3 h4
    rw [e1, e2]
  · have hr : rprs l = none := by
      unfold rprs
      rw [if_neg]
      rintro ⟨h1, h2, h3⟩
      cases hg : goodB (nmN (topOf l)) (nmN (botOf l)) with
      | true => exact h ⟨_, _, hg, nm_in _, nm_in _, h3⟩
      | false =>
        rw [txt_bad hg] at h3
        have := nm_yes h1
        rw [← h3, top_nil] at this
        exact itoa_ne _ this
    have hp : prs l = none := by
      cases hh : prs l with
      | none => rfl
      | some v =>
        exfalso
        unfold prs at hh
        split at hh
        · rename_i n d hn hd
          split at hh
          · rename_i ht
            cases hg : goodB n d with
            | true =>
              have b1 := Lib.parseIntB_bounds hn
              have b2 := Lib.parseIntB_bounds hd
              exact h ⟨n, d, hg, ⟨by omega, by omega⟩, ⟨by omega, by omega⟩, ht⟩
            | false =>
              rw [txt_bad hg] at ht
              rw [← ht, top_nil] at hn
              cases hn
          · cases hh
        · cases hh
    rw [hr, hp]
end Go.Proofs.YtjaabjehegcnaaaDoor
