/-
  What package inst's small functions do (layer 9): Name, isAmount, rise, hasOthers, isSized; and the document's out.
-/
import Derived.Test.YtbadingdklenhaaGreatDoorInstKit
namespace Go.Proofs.YtbadingdklenhaaGreatDoor
set_option maxRecDepth 100000
open Go.RowKit

/-- The kinds' words. -/
def word (i : Nat) : ByteArray :=
  match i with
  | 0 => ⟨#[107, 110, 97, 112, 115, 97, 99, 107]⟩
  | 1 => ⟨#[97, 115, 115, 105, 103, 110, 109, 101, 110, 116]⟩
  | 2 => ⟨#[116, 115, 112]⟩
  | _ => ⟨#[99, 111, 118, 101, 114]⟩
def name (k : Int) : ByteArray := if k < 0 ∨ 3 < k then ⟨#[]⟩ else word k.toNat
/-- The table of words stands. -/
def WordsOk (w : World) : Prop := ∀ i, i < 4 → w.cell? ⟨0, i, none⟩ = some (.string (word i))
theorem WordsOk.next {w w' : World} (h : WordsOk w) (hb : Below w.heap.size w w') : WordsOk w' := fun i hi => by rw [hb.cell (cell_lt (h i hi))]; exact h i hi
theorem name_any (k : Int) (w : World) (hW : WordsOk w) : Calls Tryz.prog 42 #[.int .i64 k] w fun e w' => e = .returned (.string (name k)) ∧ Below w.heap.size w w' := by
  by_cases h1 : k < 0
  · rw [show name k = ⟨#[]⟩ from if_pos (.inl h1)]
    go_enter Tryz.func42, Tryz.ntmps42
    go_wp2
    go_ret
    exact ⟨rfl, Below.refl _ _⟩
  · by_cases h2 : 3 < k
    · rw [show name k = ⟨#[]⟩ from if_pos (.inr h2)]
      have h3 : ¬ k < 4 := by omega
      go_enter Tryz.func42, Tryz.ntmps42
      go_wp2
      go_ret
      exact ⟨rfl, Below.refl _ _⟩
    · obtain ⟨n, rfl⟩ : ∃ n : Nat, k = (n : Int) := ⟨k.toNat, by omega⟩
      have hn : n < 4 := by omega
      have hc := hW n hn
      rw [show name (n : Int) = word n from (if_neg (by omega)).trans (by simp)]
      generalize word n = s at hc
      have c1 : (0 : Int) ≤ (n : Int) := by omega
      have c2 : (n : Int) < 4 := by omega
      have c3 : ¬ (4 : Int) ≤ (n : Int) := by omega
      have c4 : ¬ (n : Int) < 0 := by omega
      clear h1 h2 hW
      go_enter Tryz.func42, Tryz.ntmps42
      go_wp2
      go_ret
      exact ⟨rfl, Below.refl _ _⟩
theorem isAmount_any (x : Int) (w : World) : Calls Tryz.prog 70 #[.int .i64 x] w fun e w' => e = .returned (.bool (amt x)) ∧ w' = w := by
  unfold amt
  go_enter Tryz.func70, Tryz.ntmps70
  go_wp2
  all_goals
    go_ret
    refine ⟨congrArg (fun b => Ending.returned (.bool b)) ?_, rfl⟩
    first | rfl | (rw [Bool.eq_iff_iff]; simp [*]; done) | (rw [Bool.eq_iff_iff]; simp [*]; omega)
theorem out_any (x a b : Int) (w : World) : Calls Tryz.prog 74 #[.int .i64 x, .int .i64 a, .int .i64 b] w fun e w' => e = .returned (.bool (!(decide (a ≤ x) && decide (x ≤ b)))) ∧ w' = w := by
  go_enter Tryz.func74, Tryz.ntmps74
  go_wp2
  all_goals
    go_ret
    refine ⟨congrArg (fun b => Ending.returned (.bool b)) ?_, rfl⟩
    first | rfl | (rw [Bool.eq_iff_iff]; simp [*]; done) | (rw [Bool.eq_iff_iff]; simp [*]; omega)
/-- An instance's three lists' lengths. -/
structure Lens (I : In) (vi vc vs : Value) : Prop where
  mk ::
  items : ∃ A C, vi = .slice A I.items.length C
  cost : ∃ A C, vc = .slice A I.cost.length C
  sets : ∃ A C, vs = .slice A I.sets.length C
theorem hasOthers_any (I : In) (vi vc vs : Value) (h : Lens I vi vc vs) (w : World) :
    Calls Tryz.prog 43 #[inV I vi vc vs] w fun e w' => e = .returned (.bool I.others) ∧ Below w.heap.size w w' := by
  obtain ⟨⟨a1, k1, rfl⟩, ⟨a2, k2, rfl⟩, ⟨a3, k3, rfl⟩⟩ := h
  unfold In.others In.kn In.sq In.cv inV
  generalize I.items.length = n1
  generalize I.cost.length = n2
  generalize I.sets.length = n3
  generalize I.kind = K
  by_cases h0 : K = 0
  · subst h0
    go_enter Tryz.func43, Tryz.ntmps43
    go_wp2
    all_goals
      go_ret
      refine ⟨congrArg (fun b => Ending.returned (.bool b)) ?_, new_below _ _⟩
      first | rfl | (rw [Bool.eq_iff_iff]; simp [*]; done) | (rw [Bool.eq_iff_iff]; simp [*]; omega)
  · by_cases h3 : K = 3
    · subst h3
      go_enter Tryz.func43, Tryz.ntmps43
      go_wp2
      all_goals
        go_ret
        refine ⟨congrArg (fun b => Ending.returned (.bool b)) ?_, new_below _ _⟩
        first | rfl | (rw [Bool.eq_iff_iff]; simp [*]; done) | (rw [Bool.eq_iff_iff]; simp [*]; omega)
    · have e0 : (K == 0) = false := by simpa using h0
      have e3 : (K == 3) = false := by simpa using h3
      go_enter Tryz.func43, Tryz.ntmps43
      go_wp2
      all_goals
        go_ret
        refine ⟨congrArg (fun b => Ending.returned (.bool b)) ?_, new_below _ _⟩
        first | rfl | (rw [Bool.eq_iff_iff]; simp [*]; done) | (rw [Bool.eq_iff_iff]; simp [*]; omega)
theorem isSized_any (I : In) (vi vc vs : Value) (h : Lens I vi vc vs) (w : World) :
    Calls Tryz.prog 44 #[inV I vi vc vs] w fun e w' => e = .returned (.bool I.sized) ∧ Below w.heap.size w w' := by
  obtain ⟨⟨a1, k1, rfl⟩, ⟨a2, k2, rfl⟩, ⟨a3, k3, rfl⟩⟩ := h
  unfold In.sized inV
  generalize I.items.length = n1
  generalize I.cost.length = n2
  generalize I.sets.length = n3
  go_enter Tryz.func44, Tryz.ntmps44
  go_wp2
  all_goals
    go_ret
    refine ⟨congrArg (fun b => Ending.returned (.bool b)) ?_, new_below _ _⟩
    first | rfl | (rw [Bool.eq_iff_iff]; simp [*]; done) | (rw [Bool.eq_iff_iff]; simp [*]; omega)
/-- rise. -/
theorem rise_any (F : Nat → Prop) (l : List Int) (u : Value) (size : Int) (w : World) (h : Ints F w u l) (hs : size ≤ 4096) :
    Calls Tryz.prog 69 #[u, .int .i64 size] w fun e w' => e = .returned (.bool (ris size 0 l)) ∧ w' = w := by
  obtain ⟨A, C, rfl, hC, hM⟩ := h.form
  unfold maxLen at hM
  have H := Lib.hid h
  clear h
  go_enter Tryz.func69, Tryz.ntmps69
  go_wp2
  go_loopw [5, 10] (fun m i wr => ∃ (k : Nat) (z : Int), k ≤ l.length ∧ m = .int .i64 z ∧ 0 ≤ z ∧ z ≤ 1000000000000 ∧ i = .int .i64 (k : Nat) ∧ wr = w ∧ Hid (ris size z (l.drop k) = ris size 0 l)) (fun _ i _ => l.length - (intOf i).toNat)
  case atStart => exact ⟨0, 0, by omega, rfl, by omega, by omega, rfl, rfl, rfl⟩
  case round =>
    obtain ⟨k, z, hk, rfl, hz0, hz1, rfl, rfl, hQ⟩ := hrel
    by_cases hlt : k < l.length
    · obtain ⟨b, off, x, rfl, _, hb, hx, hc⟩ := H.out.get hlt
      have hq := hQ.out
      obtain ⟨hi, hxi⟩ := List.getElem?_eq_some_iff.1 hx
      rw [List.drop_eq_getElem_cons hi, hxi] at hq
      simp only [ris] at hq
      have c01 : (0 : Int) ≤ (k : Int) := by omega
      have c02 : (k : Int) < (l.length : Int) := by omega
      by_cases h1 : x < z
      · have HR : Hid (ris size 0 l = false) := by show _ = _; rw [← hq]; simp; omega
        clear hQ hq hx hxi
        go_wp2
        go_ret
        exact ⟨by rw [HR.out]; rfl, rfl⟩
      · by_cases h2 : size ≤ x
        · have HR : Hid (ris size 0 l = false) := by show _ = _; rw [← hq]; simp; omega
          clear hQ hq hx hxi
          go_wp2
          go_ret
          exact ⟨by rw [HR.out]; rfl, rfl⟩
        · have HR : Hid (ris size (x + 1) (l.drop (k + 1)) = ris size 0 l) := by show _ = _; rw [← hq]; simp; omega
          clear hQ hq hx hxi
          go_wp2
          go_roundw
          case rel => exact ⟨k + 1, x + 1, by omega, by go_num, by omega, by omega, by go_num, trivial, HR⟩
          case measure => simp [intOf]; omega
    · obtain rfl : k = l.length := by omega
      have hq := hQ.out
      rw [List.drop_eq_nil_of_le (Nat.le_refl _)] at hq
      simp only [ris] at hq
      have HR := Lib.hid hq
      clear hq hQ
      go_wp2
      go_ret
      exact ⟨by rw [← HR.out]; rfl, rfl⟩
end Go.Proofs.YtbadingdklenhaaGreatDoor
