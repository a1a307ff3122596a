/-
  What the document's Parse does at every text (package secateurref02): what the program's Parse does.
-/
import Derived.Test.YtjaabjehegcnaaaDoorRParseCore
import Derived.Test.YtjaabjehegcnaaaDoorSignMath3
import Derived.Test.YtjaabjehegcnaaaDoorSignWalks
namespace Go.Proofs.YtjaabjehegcnaaaDoor
set_option maxRecDepth 100000
open Go.RowKit

theorem rp_yes {l : List UInt8} (h1 : nmB (topOf l) = true) (h2 : nmB (botOf l) = true) (h3 : txt (nmN (topOf l)) (nmN (botOf l)) = l) : prN l = nmN (topOf l) ∧ prD l = nmN (botOf l) ∧ prE l = 0 := by
  have e : prs l = some (nmN (topOf l), nmN (botOf l)) := by rw [← rprs_eq]; unfold rprs; rw [if_pos ⟨h1, h2, h3⟩]
  unfold prN prD prE
  rw [e]; simp
theorem rp_no {l : List UInt8} (h : ¬ (nmB (topOf l) = true ∧ nmB (botOf l) = true ∧ txt (nmN (topOf l)) (nmN (botOf l)) = l)) : prs l = none := by
  rw [← rprs_eq]; unfold rprs; rw [if_neg h]
theorem rpV_eq (s T : ByteArray) (hT : T.data.toList = txt (nmN (topOf s.data.toList)) (nmN (botOf s.data.toList))) :
    rpV (nmN (topOf s.data.toList)) (nmN (botOf s.data.toList)) (nmB (topOf s.data.toList) && nmB (botOf s.data.toList) && (T.toList == s.toList)) = .tuple #[.int .i64 (prN s.data.toList), .int .i64 (prD s.data.toList), .int .i64 (prE s.data.toList)] := by
  rw [Lib.toList_data, Lib.toList_data, hT]
  generalize s.data.toList = l
  by_cases h : nmB (topOf l) = true ∧ nmB (botOf l) = true ∧ txt (nmN (topOf l)) (nmN (botOf l)) = l
  · obtain ⟨e1, e2, e3⟩ := rp_yes h.1 h.2.1 h.2.2
    have hb : (nmB (topOf l) && nmB (botOf l) && (txt (nmN (topOf l)) (nmN (botOf l)) == l)) = true := by
      rw [h.1, h.2.1, beq_iff_eq.2 h.2.2]; rfl
    rw [e1, e2, e3, hb]; rfl
  · obtain ⟨e1, e2, e3⟩ := prs_none (rp_no h)
    have hb : (nmB (topOf l) && nmB (botOf l) && (txt (nmN (topOf l)) (nmN (botOf l)) == l)) = false := by
      rw [Bool.eq_false_iff]
      intro hh
      simp only [Bool.and_eq_true, beq_iff_eq] at hh
      exact h ⟨hh.1.1, hh.1.2, hh.2⟩
    rw [e1, e2, e3, hb]; rfl
theorem at_list {s : ByteArray} {k : Nat} (hk : k < s.size) : s.data.toList[k]? = some s[k] := by
  rw [List.getElem?_eq_getElem (by rw [Array.length_toList]; exact hk)]; rfl

theorem rparse_any (s : ByteArray) (hs : s.size ≤ 281474976710656) (w : World) :
    Calls Tryd.prog 30 #[.string s] w fun e w' => e = .returned (.tuple #[.int .i64 (prN s.data.toList), .int .i64 (prD s.data.toList), .int .i64 (prE s.data.toList)]) ∧ Below w.heap.size w w' := by
  obtain ⟨T, eT, hT⟩ := text_ba (nmN (topOf s.data.toList)) (nmN (botOf s.data.toList))
  have TT : TextIs (nmN (topOf s.data.toList)) (nmN (botOf s.data.toList)) T := by
    intro W
    rw [← eT]
    exact rtext_any _ _ (nm_in _) (nm_in _) W
  rw [← rpV_eq s T hT]
  rcases index_or s with h | ⟨i, h, hi⟩
  · obtain ⟨e1, e2⟩ := pieces_miss h
    have PX : NumIs s (nmN (topOf s.data.toList)) (nmB (topOf s.data.toList)) := by
      intro W; rw [e1]; exact number_any s hs W
    have PY : NumIs (⟨#[49]⟩ : ByteArray) (nmN (botOf s.data.toList)) (nmB (botOf s.data.toList)) := by
      intro W; rw [e2]; exact number_any _ (by decide) W
    refine rparse_miss s hs (fun k hk hb => ?_) _ _ _ _ T PX PY TT w
    refine Lib.indexByte_none h k ?_
    rw [at_list hk]; congr 1; exact UInt8.toNat_inj.1 hb
  · obtain ⟨e1, e2⟩ := pieces_hit h
    obtain ⟨h2, h3⟩ := Lib.indexByte_some h
    have PX : NumIs (s.extract 0 i) (nmN (topOf s.data.toList)) (nmB (topOf s.data.toList)) := by
      intro W; rw [e1]; exact number_any _ (by rw [ByteArray.size_extract]; omega) W
    have PY : NumIs (s.extract (i + 1) s.size) (nmN (botOf s.data.toList)) (nmB (botOf s.data.toList)) := by
      intro W; rw [e2]; exact number_any _ (by rw [ByteArray.size_extract]; omega) W
    refine rparse_hit s hs i (by omega) ?_ (fun k hk hki hb => ?_) _ _ rfl rfl _ _ _ _ T PX PY TT w
    · rw [at_list (by omega)] at h2; injection h2
    · refine h3 k hki ?_
      rw [at_list hk]; congr 1; exact UInt8.toNat_inj.1 hb

/-! ### a good ratio's signs, read -/
theorem txt_ne {n d : Int} (h : goodB n d = true) : txt n d ≠ [] := by
  unfold txt
  rw [if_pos h]
  split
  · exact itoa_ne n
  · simp
theorem good_back {n d : Int} (h : goodB n d = true) (hn : I64 n) (hd : I64 d) : prN (txt n d) = n ∧ prD (txt n d) = d ∧ prE (txt n d) = 0 := by
  have e := (both_some h hn hd rfl).1
  unfold prN prD prE
  rw [e]; simp
theorem pr_in (l : List UInt8) : I64 (prN l) ∧ I64 (prD l) ∧ I64 (prE l) := by
  have h4 : I64 4 := ⟨by decide, by decide⟩
  have h0 : I64 0 := ⟨by decide, by decide⟩
  have hE : I64 (prE l) := by unfold prE; split <;> assumption
  cases hp : prs l with
  | none => obtain ⟨e1, e2, e3⟩ := prs_none hp; rw [e1, e2, e3]; exact ⟨h0, h0, h4⟩
  | some v =>
    rw [← rprs_eq] at hp
    have hN : prN l = v.1 ∧ prD l = v.2 := by rw [rprs_eq] at hp; unfold prN prD; rw [hp]; exact ⟨rfl, rfl⟩
    unfold rprs at hp
    split at hp
    · injection hp with hp
      rw [hN.1, hN.2, ← hp]
      exact ⟨nm_in _, nm_in _, hE⟩
    · cases hp
end Go.Proofs.YtjaabjehegcnaaaDoor
