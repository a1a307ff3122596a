/-
  What a text's code points and tokens are (layer 8), over lists of bytes.
-/
import Derived.Lib.SlTrimSet
import Derived.Lib.Strings
import Derived.Lib.ParseIntB
import Derived.Lib.ParseIntBCases
import Derived.Laws.RangeAny
namespace Go.Proofs.YtbadingdklenhaaGreatDoor
open Go

def isL (b : UInt8) : Bool := decide (97 ≤ b.toNat) && decide (b.toNat ≤ 122)
def isD (b : UInt8) : Bool := decide (48 ≤ b.toNat) && decide (b.toNat ≤ 57)
def isA (b : UInt8) : Bool := isL b || isD b

/-- How many bytes a code point has, by its first one. -/
def pLead (a : Nat) : Nat := if a < 128 then 1 else if 194 ≤ a ∧ a ≤ 223 then 2 else if 224 ≤ a ∧ a ≤ 239 then 3 else if 240 ≤ a ∧ a ≤ 244 then 4 else 0
def pLow (a : Nat) : Nat := if a = 224 then 160 else if a = 240 then 144 else 128
def pHigh (a : Nat) : Nat := if a = 237 then 159 else if a = 244 then 143 else 191
def okAt (l : List UInt8) (a k : Nat) : Bool := match l[k]? with
  | some b => if k = 1 then decide (pLow a ≤ b.toNat) && decide (b.toNat ≤ pHigh a) else decide (128 ≤ b.toNat) && decide (b.toNat ≤ 191)
  | none => false
def pt (l : List UInt8) : Nat := match l with
  | [] => 0
  | a :: _ => if (List.range (pLead a.toNat)).all (fun k => k == 0 || okAt l a.toNat k) then pLead a.toNat else 0

theorem pLow_ge (a : Nat) : 128 ≤ pLow a := by
  unfold pLow
  repeat' split
  all_goals omega
theorem pHigh_le (a : Nat) : pHigh a ≤ 191 := by
  unfold pHigh
  repeat' split
  all_goals omega
theorem okAt_get {l : List UInt8} {a k : Nat} (h : okAt l a k = true) : ∃ b, l[k]? = some b ∧ 128 ≤ b.toNat ∧ b.toNat ≤ 191 := by
  unfold okAt at h
  split at h
  · rename_i b hb
    have h1 := pLow_ge a
    have h2 := pHigh_le a
    refine ⟨b, hb, ?_⟩
    split at h <;> simp only [Bool.and_eq_true, decide_eq_true_eq] at h <;> omega
  · cases h
theorem pt_nil : pt [] = 0 := rfl
theorem pt_all {a : UInt8} {r : List UInt8} (h : pt (a :: r) ≠ 0) : pt (a :: r) = pLead a.toNat ∧ ∀ k, 1 ≤ k → k < pLead a.toNat → okAt (a :: r) a.toNat k = true := by
  unfold pt at h ⊢
  simp only at h ⊢
  split at h
  · rename_i hall
    rw [if_pos hall]
    refine ⟨rfl, fun k h1 hk => ?_⟩
    have := List.all_eq_true.1 hall k (List.mem_range.2 hk)
    simp only [Bool.or_eq_true, beq_iff_eq] at this
    rcases this with h0 | h0
    · omega
    · exact h0
  · exact absurd rfl h
theorem pt_of {a : UInt8} {r : List UInt8} (h : ∀ k, 1 ≤ k → k < pLead a.toNat → okAt (a :: r) a.toNat k = true) : pt (a :: r) = pLead a.toNat := by
  unfold pt
  simp only
  rw [if_pos]
  refine List.all_eq_true.2 fun k hk => ?_
  have hk' := List.mem_range.1 hk
  rcases Nat.eq_zero_or_pos k with h0 | h0
  · simp [h0]
  · simp [h k h0 hk']
theorem pt_not {a : UInt8} {r : List UInt8} {k : Nat} (h1 : 1 ≤ k) (hk : k < pLead a.toNat) (h : okAt (a :: r) a.toNat k = false) : pt (a :: r) = 0 := by
  unfold pt
  simp only
  rw [if_neg]
  intro hall
  have := List.all_eq_true.1 hall k (List.mem_range.2 hk)
  simp only [Bool.or_eq_true, beq_iff_eq, h] at this
  rcases this with h0 | h0
  · omega
  · cases h0
theorem pLead_le (a : Nat) : pLead a ≤ 4 := by unfold pLead; repeat' split
                                               all_goals omega
theorem pt_ascii {a : UInt8} {r : List UInt8} (h : a.toNat < 128) : pt (a :: r) = 1 := by
  have e : pLead a.toNat = 1 := by unfold pLead; rw [if_pos h]
  rw [pt_of (by rw [e]; omega), e]
theorem pt_one {a : UInt8} {r : List UInt8} (h : pt (a :: r) = 1) : a.toNat < 128 := by
  have h1 := (pt_all (a := a) (r := r) (by omega)).1
  rw [h] at h1
  unfold pLead at h1
  split at h1
  · assumption
  · repeat' split at h1
    all_goals omega
/-- The bytes of a code point: as many as it has, none of them below 128 but the first. -/
theorem pt_bytes {a : UInt8} {r : List UInt8} (h : pt (a :: r) ≠ 0) : pt (a :: r) ≤ (a :: r).length ∧ ∀ k, 1 ≤ k → k < pt (a :: r) → ∃ b, (a :: r)[k]? = some b ∧ 128 ≤ b.toNat := by
  obtain ⟨h1, h2⟩ := pt_all h
  have h3 : ∀ k, 1 ≤ k → k < pt (a :: r) → ∃ b, (a :: r)[k]? = some b ∧ 128 ≤ b.toNat := by
    intro k hk hk2
    rw [h1] at hk2
    obtain ⟨b, hb, h4, _⟩ := okAt_get (h2 k hk hk2)
    exact ⟨b, hb, h4⟩
  refine ⟨?_, h3⟩
  by_cases h5 : pt (a :: r) = 1
  · rw [h5]; simp
  · obtain ⟨b, hb, _⟩ := h3 (pt (a :: r) - 1) (by omega) (by omega)
    have := (List.getElem?_eq_some_iff.1 hb).1
    omega
theorem okAt_app {l : List UInt8} {a k : Nat} (t : List UInt8) (h : okAt l a k = true) : okAt (l ++ t) a k = true := by
  obtain ⟨b, hb, _⟩ := okAt_get h
  have hlt := (List.getElem?_eq_some_iff.1 hb).1
  unfold okAt at h ⊢
  rw [List.getElem?_append_left hlt]
  exact h
theorem pt_app {l : List UInt8} (t : List UInt8) (h : pt l ≠ 0) : pt (l ++ t) = pt l := by
  cases l with
  | nil => exact absurd rfl h
  | cons a r =>
    obtain ⟨h1, h2⟩ := pt_all h
    rw [h1]
    exact pt_of (r := r ++ t) fun k hk hk2 => okAt_app t (h2 k hk hk2)

/-! ### What the model reads at a place -/

theorem get_list (s : ByteArray) (i : Nat) (h : i < s.size) : s.data.toList[i]? = some (s.get! i) := by
  rw [List.getElem?_eq_getElem (by rw [Array.length_toList]; exact h)]
  congr 1
  simp [ByteArray.get!, getElem!_pos, h]
theorem size_list (s : ByteArray) : s.data.toList.length = s.size := by rw [Array.length_toList]; rfl

def nDec (n b0 b1 b2 b3 : Nat) : Nat × Nat :=
  if b0 < 0x80 then (b0, 1)
  else if b0 / 32 = 6 ∧ 1 < n ∧ b1 / 64 = 2 then
    (if 0x80 ≤ (b0 % 32) * 64 + b1 % 64 then ((b0 % 32) * 64 + b1 % 64, 2) else (65533, 1))
  else if b0 / 16 = 14 ∧ (1 < n ∧ b1 / 64 = 2) ∧ (2 < n ∧ b2 / 64 = 2) then
    (if 0x800 ≤ (b0 % 16) * 4096 + (b1 % 64) * 64 + b2 % 64 ∧ ((b0 % 16) * 4096 + (b1 % 64) * 64 + b2 % 64 < 0xD800 ∨ 0xE000 ≤ (b0 % 16) * 4096 + (b1 % 64) * 64 + b2 % 64) then ((b0 % 16) * 4096 + (b1 % 64) * 64 + b2 % 64, 3) else (65533, 1))
  else if b0 / 8 = 30 ∧ (1 < n ∧ b1 / 64 = 2) ∧ (2 < n ∧ b2 / 64 = 2) ∧ (3 < n ∧ b3 / 64 = 2) then
    (if 0x10000 ≤ (b0 % 8) * 262144 + (b1 % 64) * 4096 + (b2 % 64) * 64 + b3 % 64 ∧ (b0 % 8) * 262144 + (b1 % 64) * 4096 + (b2 % 64) * 64 + b3 % 64 ≤ 0x10FFFF then ((b0 % 8) * 262144 + (b1 % 64) * 4096 + (b2 % 64) * 64 + b3 % 64, 4) else (65533, 1))
  else (65533, 1)
def nPt (n b0 b1 b2 b3 : Nat) : Nat :=
  if b0 < 128 then 1
  else if 194 ≤ b0 ∧ b0 ≤ 223 then (if 1 < n ∧ 128 ≤ b1 ∧ b1 ≤ 191 then 2 else 0)
  else if 224 ≤ b0 ∧ b0 ≤ 239 then (if (1 < n ∧ pLow b0 ≤ b1 ∧ b1 ≤ pHigh b0) ∧ (2 < n ∧ 128 ≤ b2 ∧ b2 ≤ 191) then 3 else 0)
  else if 240 ≤ b0 ∧ b0 ≤ 244 then (if (1 < n ∧ pLow b0 ≤ b1 ∧ b1 ≤ pHigh b0) ∧ (2 < n ∧ 128 ≤ b2 ∧ b2 ≤ 191) ∧ (3 < n ∧ 128 ≤ b3 ∧ b3 ≤ 191) then 4 else 0)
  else 0
theorem nDec_nPt (n b0 b1 b2 b3 : Nat) :
    (nPt n b0 b1 b2 b3 = 0 → nDec n b0 b1 b2 b3 = (65533, 1) ∧ ¬ (2 < n ∧ b0 = 239 ∧ b1 = 191 ∧ b2 = 189)) ∧
    (nPt n b0 b1 b2 b3 ≠ 0 → (nDec n b0 b1 b2 b3).2 = nPt n b0 b1 b2 b3 ∧ ((nDec n b0 b1 b2 b3).1 = 65533 → 2 < n ∧ b0 = 239 ∧ b1 = 191 ∧ b2 = 189) ∧ ((nDec n b0 b1 b2 b3).1 = 10 ↔ b0 = 10)) := by
  have yes : ∀ (m c : Nat), nPt n b0 b1 b2 b3 = m → m ≠ 0 → nDec n b0 b1 b2 b3 = (c, m) → (c = 65533 → 2 < n ∧ b0 = 239 ∧ b1 = 191 ∧ b2 = 189) → (c = 10 ↔ b0 = 10) →
      (nPt n b0 b1 b2 b3 = 0 → nDec n b0 b1 b2 b3 = (65533, 1) ∧ ¬ (2 < n ∧ b0 = 239 ∧ b1 = 191 ∧ b2 = 189)) ∧
      (nPt n b0 b1 b2 b3 ≠ 0 → (nDec n b0 b1 b2 b3).2 = nPt n b0 b1 b2 b3 ∧ ((nDec n b0 b1 b2 b3).1 = 65533 → 2 < n ∧ b0 = 239 ∧ b1 = 191 ∧ b2 = 189) ∧ ((nDec n b0 b1 b2 b3).1 = 10 ↔ b0 = 10)) := by
    intro m c e1 e2 e3 e4 e5
    rw [e1, e3]
    exact ⟨fun h => absurd h e2, fun _ => ⟨rfl, e4, e5⟩⟩
  have no : nPt n b0 b1 b2 b3 = 0 → nDec n b0 b1 b2 b3 = (65533, 1) → ¬ (2 < n ∧ b0 = 239 ∧ b1 = 191 ∧ b2 = 189) →
      (nPt n b0 b1 b2 b3 = 0 → nDec n b0 b1 b2 b3 = (65533, 1) ∧ ¬ (2 < n ∧ b0 = 239 ∧ b1 = 191 ∧ b2 = 189)) ∧
      (nPt n b0 b1 b2 b3 ≠ 0 → (nDec n b0 b1 b2 b3).2 = nPt n b0 b1 b2 b3 ∧ ((nDec n b0 b1 b2 b3).1 = 65533 → 2 < n ∧ b0 = 239 ∧ b1 = 191 ∧ b2 = 189) ∧ ((nDec n b0 b1 b2 b3).1 = 10 ↔ b0 = 10)) := by
    intro e1 e2 e3
    exact ⟨fun _ => ⟨e2, e3⟩, fun h => absurd e1 h⟩
  by_cases c1 : b0 < 128
  · exact yes 1 b0 (by unfold nPt; rw [if_pos c1]) (by omega) (by unfold nDec; rw [if_pos c1]) (by omega) Iff.rfl
  by_cases c2 : 194 ≤ b0 ∧ b0 ≤ 223
  · have d1 : ¬ (b0 / 16 = 14 ∧ (1 < n ∧ b1 / 64 = 2) ∧ (2 < n ∧ b2 / 64 = 2)) := by omega
    have d4 : ¬ (b0 / 8 = 30 ∧ (1 < n ∧ b1 / 64 = 2) ∧ (2 < n ∧ b2 / 64 = 2) ∧ (3 < n ∧ b3 / 64 = 2)) := by omega
    by_cases c3 : 1 < n ∧ 128 ≤ b1 ∧ b1 ≤ 191
    · have d2 : b0 / 32 = 6 ∧ 1 < n ∧ b1 / 64 = 2 := by omega
      have d3 : 0x80 ≤ (b0 % 32) * 64 + b1 % 64 := by omega
      exact yes 2 _ (by unfold nPt; rw [if_neg c1, if_pos c2, if_pos c3]) (by omega) (by unfold nDec; rw [if_neg c1, if_pos d2, if_pos d3]) (by omega) (by omega)
    · have d2 : ¬ (b0 / 32 = 6 ∧ 1 < n ∧ b1 / 64 = 2) := by omega
      exact no (by unfold nPt; rw [if_neg c1, if_pos c2, if_neg c3]) (by unfold nDec; rw [if_neg c1, if_neg d2, if_neg d1, if_neg d4]) (by omega)
  by_cases c3 : 224 ≤ b0 ∧ b0 ≤ 239
  · have d0 : ¬ (b0 / 32 = 6 ∧ 1 < n ∧ b1 / 64 = 2) := by omega
    have d4 : ¬ (b0 / 8 = 30 ∧ (1 < n ∧ b1 / 64 = 2) ∧ (2 < n ∧ b2 / 64 = 2) ∧ (3 < n ∧ b3 / 64 = 2)) := by omega
    by_cases c4 : (1 < n ∧ b1 / 64 = 2) ∧ (2 < n ∧ b2 / 64 = 2)
    · have d1 : b0 / 16 = 14 ∧ (1 < n ∧ b1 / 64 = 2) ∧ (2 < n ∧ b2 / 64 = 2) := by omega
      by_cases c5 : 0x800 ≤ (b0 % 16) * 4096 + (b1 % 64) * 64 + b2 % 64 ∧ ((b0 % 16) * 4096 + (b1 % 64) * 64 + b2 % 64 < 0xD800 ∨ 0xE000 ≤ (b0 % 16) * 4096 + (b1 % 64) * 64 + b2 % 64)
      · have d5 : (1 < n ∧ pLow b0 ≤ b1 ∧ b1 ≤ pHigh b0) ∧ (2 < n ∧ 128 ≤ b2 ∧ b2 ≤ 191) := by
          refine ⟨⟨by omega, ?_, ?_⟩, by omega, by omega, by omega⟩
          · unfold pLow
            repeat' split
            all_goals omega
          · unfold pHigh
            repeat' split
            all_goals omega
        exact yes 3 _ (by unfold nPt; rw [if_neg c1, if_neg c2, if_pos c3, if_pos d5]) (by omega) (by unfold nDec; rw [if_neg c1, if_neg d0, if_pos d1, if_pos c5]) (by omega) (by omega)
      · have d5 : ¬ ((1 < n ∧ pLow b0 ≤ b1 ∧ b1 ≤ pHigh b0) ∧ (2 < n ∧ 128 ≤ b2 ∧ b2 ≤ 191)) := by
          rintro ⟨⟨_, e1, e2⟩, _, e3, e4⟩
          apply c5
          unfold pLow at e1
          unfold pHigh at e2
          repeat' split at e1
          all_goals repeat' split at e2
          all_goals omega
        exact no (by unfold nPt; rw [if_neg c1, if_neg c2, if_pos c3, if_neg d5]) (by unfold nDec; rw [if_neg c1, if_neg d0, if_pos d1, if_neg c5]) (by omega)
    · have d2 : ¬ (b0 / 16 = 14 ∧ (1 < n ∧ b1 / 64 = 2) ∧ (2 < n ∧ b2 / 64 = 2)) := fun h => c4 h.2
      have d5 : ¬ ((1 < n ∧ pLow b0 ≤ b1 ∧ b1 ≤ pHigh b0) ∧ (2 < n ∧ 128 ≤ b2 ∧ b2 ≤ 191)) := by
        have := pLow_ge b0
        have := pHigh_le b0
        omega
      exact no (by unfold nPt; rw [if_neg c1, if_neg c2, if_pos c3, if_neg d5]) (by unfold nDec; rw [if_neg c1, if_neg d0, if_neg d2, if_neg d4]) (by omega)
  have d1 : ¬ (b0 / 16 = 14 ∧ (1 < n ∧ b1 / 64 = 2) ∧ (2 < n ∧ b2 / 64 = 2)) := by omega
  by_cases c4 : 240 ≤ b0 ∧ b0 ≤ 244
  · have d3 : ¬ (b0 / 32 = 6 ∧ 1 < n ∧ b1 / 64 = 2) := by omega
    by_cases c5 : (1 < n ∧ b1 / 64 = 2) ∧ (2 < n ∧ b2 / 64 = 2) ∧ (3 < n ∧ b3 / 64 = 2)
    · have d2 : b0 / 8 = 30 ∧ (1 < n ∧ b1 / 64 = 2) ∧ (2 < n ∧ b2 / 64 = 2) ∧ (3 < n ∧ b3 / 64 = 2) := by omega
      by_cases c6 : 0x10000 ≤ (b0 % 8) * 262144 + (b1 % 64) * 4096 + (b2 % 64) * 64 + b3 % 64 ∧ (b0 % 8) * 262144 + (b1 % 64) * 4096 + (b2 % 64) * 64 + b3 % 64 ≤ 0x10FFFF
      · have d5 : (1 < n ∧ pLow b0 ≤ b1 ∧ b1 ≤ pHigh b0) ∧ (2 < n ∧ 128 ≤ b2 ∧ b2 ≤ 191) ∧ (3 < n ∧ 128 ≤ b3 ∧ b3 ≤ 191) := by
          refine ⟨⟨by omega, ?_, ?_⟩, ⟨by omega, by omega, by omega⟩, by omega, by omega, by omega⟩
          · unfold pLow
            repeat' split
            all_goals omega
          · unfold pHigh
            repeat' split
            all_goals omega
        exact yes 4 _ (by unfold nPt; rw [if_neg c1, if_neg c2, if_neg c3, if_pos c4, if_pos d5]) (by omega) (by unfold nDec; rw [if_neg c1, if_neg d3, if_neg d1, if_pos d2, if_pos c6]) (by omega) (by omega)
      · have d5 : ¬ ((1 < n ∧ pLow b0 ≤ b1 ∧ b1 ≤ pHigh b0) ∧ (2 < n ∧ 128 ≤ b2 ∧ b2 ≤ 191) ∧ (3 < n ∧ 128 ≤ b3 ∧ b3 ≤ 191)) := by
          rintro ⟨⟨_, e1, e2⟩, ⟨_, e3, e4⟩, _, e5, e6⟩
          apply c6
          unfold pLow at e1
          unfold pHigh at e2
          repeat' split at e1
          all_goals repeat' split at e2
          all_goals omega
        exact no (by unfold nPt; rw [if_neg c1, if_neg c2, if_neg c3, if_pos c4, if_neg d5]) (by unfold nDec; rw [if_neg c1, if_neg d3, if_neg d1, if_pos d2, if_neg c6]) (by omega)
    · have d4 : ¬ (b0 / 8 = 30 ∧ (1 < n ∧ b1 / 64 = 2) ∧ (2 < n ∧ b2 / 64 = 2) ∧ (3 < n ∧ b3 / 64 = 2)) := fun h => c5 h.2
      have d5 : ¬ ((1 < n ∧ pLow b0 ≤ b1 ∧ b1 ≤ pHigh b0) ∧ (2 < n ∧ 128 ≤ b2 ∧ b2 ≤ 191) ∧ (3 < n ∧ 128 ≤ b3 ∧ b3 ≤ 191)) := by
        have := pLow_ge b0
        have := pHigh_le b0
        omega
      exact no (by unfold nPt; rw [if_neg c1, if_neg c2, if_neg c3, if_pos c4, if_neg d5]) (by unfold nDec; rw [if_neg c1, if_neg d3, if_neg d1, if_neg d4]) (by omega)
  · refine no (by unfold nPt; rw [if_neg c1, if_neg c2, if_neg c3, if_neg c4]) ?_ (by omega)
    unfold nDec
    rw [if_neg c1, if_neg d1]
    split
    · rw [if_neg (by omega)]
    · split
      · rw [if_neg (by omega)]
      · rfl

theorem if_same {α : Type} {b c : Prop} [Decidable b] [Decidable c] {x y u v : α} (h : b ↔ c) (h1 : x = u) (h2 : y = v) : (if b then x else y) = (if c then u else v) := by
  subst h1 h2
  by_cases hb : b
  · rw [if_pos hb, if_pos (h.1 hb)]
  · rw [if_neg hb, if_neg (fun hc => hb (h.2 hc))]
theorem dec_aux (f : Nat → Nat) (cont : Nat → Bool) (n : Nat) (hc : ∀ k, cont k = true ↔ (k < n ∧ f k / 64 = 2)) :
    (if f 0 < 0x80 then (f 0, 1)
     else if f 0 / 32 == 6 && cont 1 then
       (if (f 0 % 32) * 64 + f 1 % 64 ≥ 0x80 then ((f 0 % 32) * 64 + f 1 % 64, 2) else (Utf8.runeError, 1))
     else if f 0 / 16 == 14 && cont 1 && cont 2 then
       (if ((f 0 % 16) * 4096 + (f 1 % 64) * 64 + f 2 % 64 : Nat) ≥ 0x800 && Utf8.valid ((f 0 % 16) * 4096 + (f 1 % 64) * 64 + f 2 % 64 : Nat) then ((f 0 % 16) * 4096 + (f 1 % 64) * 64 + f 2 % 64, 3) else (Utf8.runeError, 1))
     else if f 0 / 8 == 30 && cont 1 && cont 2 && cont 3 then
       (if ((f 0 % 8) * 262144 + (f 1 % 64) * 4096 + (f 2 % 64) * 64 + f 3 % 64 : Nat) ≥ 0x10000 && Utf8.valid ((f 0 % 8) * 262144 + (f 1 % 64) * 4096 + (f 2 % 64) * 64 + f 3 % 64 : Nat) then ((f 0 % 8) * 262144 + (f 1 % 64) * 4096 + (f 2 % 64) * 64 + f 3 % 64, 4) else (Utf8.runeError, 1))
     else (Utf8.runeError, 1)) = nDec n (f 0) (f 1) (f 2) (f 3) := by
  have c1 := hc 1
  have c2 := hc 2
  have c3 := hc 3
  generalize f 0 = b0
  generalize f 1 = b1 at c1 ⊢
  generalize f 2 = b2 at c2 ⊢
  generalize f 3 = b3 at c3 ⊢
  generalize cont 1 = k1 at c1 ⊢
  generalize cont 2 = k2 at c2 ⊢
  generalize cont 3 = k3 at c3 ⊢
  unfold nDec Utf8.valid Utf8.runeError
  simp only [Bool.and_eq_true, Bool.or_eq_true, beq_iff_eq, decide_eq_true_eq, c1, c2, c3, ge_iff_le]
  refine if_same Iff.rfl rfl (if_same ?_ (if_same Iff.rfl rfl rfl) (if_same ?_ (if_same ?_ rfl rfl) (if_same ?_ (if_same ?_ rfl rfl) rfl)))
  all_goals omega
/-- What the model reads at a place is what stands there. -/
theorem decode_nDec (s : ByteArray) (pos : Nat) : Utf8.decode s pos = nDec (s.size - pos) (s.get! (pos + 0)).toNat (s.get! (pos + 1)).toNat (s.get! (pos + 2)).toNat (s.get! (pos + 3)).toNat :=
  dec_aux (fun k => (s.get! (pos + k)).toNat) (fun k => decide (pos + k < s.size) && (s.get! (pos + k)).toNat / 64 == 2) (s.size - pos) (fun k => by
    simp only [Bool.and_eq_true, decide_eq_true_eq, beq_iff_eq]
    omega)
theorem pt_nPt (s : ByteArray) (pos : Nat) (h : pos < s.size) : pt (s.data.toList.drop pos) = nPt (s.size - pos) (s.get! (pos + 0)).toNat (s.get! (pos + 1)).toNat (s.get! (pos + 2)).toNat (s.get! (pos + 3)).toNat := by
  have hl := size_list s
  have g : ∀ k, (s.data.toList.drop pos)[k]? = if k < s.size - pos then some (s.get! (pos + k)) else none := by
    intro k
    rw [List.getElem?_drop]
    split
    · exact get_list s (pos + k) (by omega)
    · rw [List.getElem?_eq_none (by omega)]
  have g0 := g 0
  rw [if_pos (by omega)] at g0
  obtain ⟨a, r, hd⟩ : ∃ a r, s.data.toList.drop pos = a :: r := by
    cases hd : s.data.toList.drop pos with
    | nil => rw [hd] at g0; cases g0
    | cons a r => exact ⟨a, r, rfl⟩
  have ha : a = s.get! (pos + 0) := by rw [hd] at g0; exact Option.some.inj g0
  have ok : ∀ k, okAt (a :: r) a.toNat k = (decide (k < s.size - pos) && (if k = 1 then decide (pLow a.toNat ≤ (s.get! (pos + k)).toNat) && decide ((s.get! (pos + k)).toNat ≤ pHigh a.toNat) else decide (128 ≤ (s.get! (pos + k)).toNat) && decide ((s.get! (pos + k)).toNat ≤ 191))) := by
    intro k
    unfold okAt
    rw [← hd, g k]
    by_cases hk : k < s.size - pos <;> simp [hk]
  have o1 := ok 1
  have o2 := ok 2
  have o3 := ok 3
  rw [hd, ← ha]
  unfold pt nPt
  simp only
  rw [if_pos rfl] at o1
  rw [if_neg (by omega)] at o2 o3
  unfold pLead
  by_cases c1 : a.toNat < 128
  · rw [if_pos c1, if_pos c1, if_pos (by simp [List.range, List.range.loop])]
  rw [if_neg c1, if_neg c1]
  by_cases c2 : 194 ≤ a.toNat ∧ a.toNat ≤ 223
  · have e : pLow a.toNat = 128 ∧ pHigh a.toNat = 191 := by
      unfold pLow pHigh
      refine ⟨?_, ?_⟩
      all_goals repeat' split
      all_goals omega
    rw [if_pos c2, if_pos c2]
    rw [e.1, e.2] at o1
    simp [List.range, List.range.loop, o1]
  rw [if_neg c2, if_neg c2]
  by_cases c3 : 224 ≤ a.toNat ∧ a.toNat ≤ 239
  · rw [if_pos c3, if_pos c3]
    simp [List.range, List.range.loop, o1, o2]
  rw [if_neg c3, if_neg c3]
  by_cases c4 : 240 ≤ a.toNat ∧ a.toNat ≤ 244
  · rw [if_pos c4, if_pos c4]
    simp [List.range, List.range.loop, o1, o2, o3]
  rw [if_neg c4, if_neg c4]
  simp

/-- The three bytes of the code point that a broken byte is told as. -/
theorem fffd_iff (s : ByteArray) (pos : Nat) (h : pos < s.size) : Lib.hasPrefix (s.data.toList.drop pos) [239, 191, 189] = true ↔ 2 < s.size - pos ∧ (s.get! (pos + 0)).toNat = 239 ∧ (s.get! (pos + 1)).toNat = 191 ∧ (s.get! (pos + 2)).toNat = 189 := by
  have hl := size_list s
  have g : ∀ k, (s.data.toList.drop pos)[k]? = if k < s.size - pos then some (s.get! (pos + k)) else none := by
    intro k
    rw [List.getElem?_drop]
    split
    · exact get_list s (pos + k) (by omega)
    · rw [List.getElem?_eq_none (by omega)]
  have g0 := g 0
  have g1 := g 1
  have g2 := g 2
  have u : ∀ (b : UInt8) (n : Nat), n < 256 → (b.toNat = n ↔ b = UInt8.ofNat n) := by
    intro b n hn
    constructor
    · intro e; rw [← e]; simp
    · rintro rfl; rw [UInt8.toNat_ofNat']; omega
  rw [u _ 239 (by omega), u _ 191 (by omega), u _ 189 (by omega)]
  generalize s.data.toList.drop pos = l at g0 g1 g2
  unfold Lib.hasPrefix
  match l, g0, g1, g2 with
  | [], g0, _, _ => rw [if_pos (by omega)] at g0; cases g0
  | [x], g0, g1, _ =>
    have : ¬ 1 < s.size - pos := by intro hh; rw [if_pos hh] at g1; cases g1
    simp [List.isPrefixOf]; omega
  | [x, y], g0, g1, g2 =>
    have : ¬ 2 < s.size - pos := by intro hh; rw [if_pos hh] at g2; cases g2
    simp [List.isPrefixOf]; omega
  | x :: y :: z :: r, g0, g1, g2 =>
    have hs : 2 < s.size - pos := by
      rcases Nat.lt_or_ge 2 (s.size - pos) with hh | hh
      · exact hh
      · rw [if_neg (by omega)] at g2; cases g2
    rw [if_pos (by omega)] at g0 g1 g2
    have e0 : x = s.get! (pos + 0) := Option.some.inj g0
    have e1 : y = s.get! (pos + 1) := Option.some.inj g1
    have e2 : z = s.get! (pos + 2) := Option.some.inj g2
    rw [← e0, ← e1, ← e2]
    simp [List.isPrefixOf, hs]
    constructor
    · rintro ⟨rfl, rfl, rfl⟩; exact ⟨rfl, rfl, rfl⟩
    · rintro ⟨rfl, rfl, rfl⟩; exact ⟨rfl, rfl, rfl⟩

/-- What a walk over a text wants to know at a place where no code point begins. -/
theorem decode_no (s : ByteArray) (pos : Nat) (h : pos < s.size) (h0 : pt (s.data.toList.drop pos) = 0) : Utf8.decode s pos = (65533, 1) ∧ Lib.hasPrefix (s.data.toList.drop pos) [239, 191, 189] = false := by
  have e := (nDec_nPt (s.size - pos) (s.get! (pos + 0)).toNat (s.get! (pos + 1)).toNat (s.get! (pos + 2)).toNat (s.get! (pos + 3)).toNat).1 (by rw [← pt_nPt s pos h]; exact h0)
  rw [← decode_nDec, ← fffd_iff s pos h] at e
  exact ⟨e.1, by simpa using e.2⟩
/-- .. and where one does. -/
theorem decode_yes (s : ByteArray) (pos : Nat) (h : pos < s.size) (h0 : pt (s.data.toList.drop pos) ≠ 0) :
    (Utf8.decode s pos).2 = pt (s.data.toList.drop pos) ∧ ((Utf8.decode s pos).1 = 65533 → Lib.hasPrefix (s.data.toList.drop pos) [239, 191, 189] = true) ∧ ((Utf8.decode s pos).1 = 10 ↔ (s.get! pos).toNat = 10) := by
  have e := (nDec_nPt (s.size - pos) (s.get! (pos + 0)).toNat (s.get! (pos + 1)).toNat (s.get! (pos + 2)).toNat (s.get! (pos + 3)).toNat).2 (by rw [← pt_nPt s pos h]; exact h0)
  rw [← decode_nDec, ← fffd_iff s pos h, ← pt_nPt s pos h] at e
  exact e
end Go.Proofs.YtbadingdklenhaaGreatDoor
