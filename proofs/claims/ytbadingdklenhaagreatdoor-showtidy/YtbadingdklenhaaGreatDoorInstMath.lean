/-
  Instances of four problems (layer 9) as plain data: which may be, how many decisions they have, which two are the same. No program here.
-/
import Derived.Test.YtbadingdklenhaaGreatDoorRows
namespace Go.Proofs.YtbadingdklenhaaGreatDoor
set_option maxRecDepth 100000

/-- An instance: items are value and weight; sets are cost and elements. -/
structure In where
  kind : Int
  cap : Int
  items : List (Int × Int)
  cost : List (List Int)
  size : Int
  sets : List (Int × List Int)

def I64 (n : Int) : Prop := -9223372036854775808 ≤ n ∧ n ≤ 9223372036854775807
/-- A number of all but a square's. -/
def amt (x : Int) : Bool := decide (0 ≤ x) && decide (x ≤ 2147483648)
/-- A number of a square's. -/
def mag (x : Int) : Bool := decide (-2147483648 ≤ x) && decide (x ≤ 2147483648)
/-- From m on, below size, each behind the one ahead of it. -/
def ris (size : Int) : Int → List Int → Bool
  | _, [] => true
  | m, x :: r => decide (m ≤ x) && decide (x < size) && ris size (x + 1) r
/-- 0 at each row's own place, from row k on. -/
def hol : Nat → List (List Int) → Bool
  | _, [] => true
  | k, r :: rs => decide (r.getD k 0 = 0) && hol (k + 1) rs

namespace In
def kn (I : In) : Bool := decide (¬ I.cap = 0) || decide (0 < I.items.length)
def sq (I : In) : Bool := decide (0 < I.cost.length)
def cv (I : In) : Bool := decide (¬ I.size = 0) || decide (0 < I.sets.length)
def others (I : In) : Bool := (decide (I.kind = 0) && (I.sq || I.cv)) || (decide (I.kind = 3) && (I.kn || I.sq)) || (decide (¬ I.kind = 0) && (decide (¬ I.kind = 3) && (I.kn || I.cv)))
def sized (I : In) : Bool := decide (I.items.length ≤ 4096) && decide (I.cost.length ≤ 64) && (decide (1 ≤ I.cost.length) || !(decide (I.kind = 1) || decide (I.kind = 2))) && decide (0 ≤ I.size) && decide (I.size ≤ 4096) && decide (I.sets.length ≤ 4096)
def formed (I : In) : Bool := I.cost.all (fun r => decide (r.length = I.cost.length)) && I.sets.all (fun s => ris I.size 0 s.2)
def fine (I : In) : Bool := amt I.cap && (I.items.all (fun p => amt p.1 && amt p.2) && (I.cost.all (fun r => r.all mag) && I.sets.all (fun s => amt s.1)))
/-- What Check answers. -/
def chk (I : In) : Int :=
  if I.kind < 0 ∨ 3 < I.kind then 25 else if I.others = true then 4 else if I.sized = false then 22 else if I.formed = false then 4 else if I.fine = false then 22
  else if I.kind = 2 ∧ hol 0 I.cost = false then 4 else 0
/-- What N answers. -/
def dec (I : In) : Int :=
  if I.chk = 0 then (if I.kind = 0 then (I.items.length : Int) else if I.kind = 1 then (I.cost.length : Int) else if I.kind = 2 then (I.cost.length : Int) - 1 else (I.sets.length : Int)) else 0
/-- Are two the same? -/
def eqI (I J : In) : Bool := decide (I.kind = J.kind) && decide (I.cap = J.cap) && decide (I.size = J.size) && decide (I.items = J.items) && decide (I.cost = J.cost) && decide (I.sets = J.sets)
theorem eqI_self (I : In) : eqI I I = true := by simp [eqI]
/-- What insts leaves of one. -/
def cut (I : In) : In := { I with items := I.items.take 40, cost := (I.cost.take 70).map (fun r => r.take 70), sets := (I.sets.take 40).map (fun s => (s.1, s.2.take 40)) }
/-- Its lists are short. -/
structure Small (I : In) : Prop where
  mk ::
  items : I.items.length ≤ 40
  cost : I.cost.length ≤ 70
  rows : ∀ r ∈ I.cost, r.length ≤ 70
  sets : I.sets.length ≤ 40
  elems : ∀ s ∈ I.sets, s.2.length ≤ 40
theorem cut_small (I : In) : I.cut.Small := by
  refine ⟨by simp [cut]; omega, by simp [cut]; omega, fun r hr => ?_, by simp [cut]; omega, fun s hs => ?_⟩
  · simp only [cut, List.mem_map] at hr
    obtain ⟨q, _, rfl⟩ := hr
    simp; omega
  · simp only [cut, List.mem_map] at hs
    obtain ⟨q, _, rfl⟩ := hs
    simp; omega
theorem Small.cut_eq {I : In} (h : I.Small) : I.cut = I := by
  have e1 : I.items.take 40 = I.items := List.take_of_length_le h.items
  have e2 : (I.cost.take 70).map (fun r => r.take 70) = I.cost := by
    rw [List.take_of_length_le h.cost]
    conv => rhs; rw [← List.map_id I.cost]
    exact List.map_congr_left fun r hr => List.take_of_length_le (h.rows r hr)
  have e3 : (I.sets.take 40).map (fun s => (s.1, s.2.take 40)) = I.sets := by
    rw [List.take_of_length_le h.sets]
    conv => rhs; rw [← List.map_id I.sets]
    exact List.map_congr_left fun s hs => by rw [List.take_of_length_le (h.elems s hs)]; rfl
  unfold cut
  rw [e1, e2, e3]
/-- The six questions, one by one. -/
theorem chk_kind {I : In} (h : I.kind < 0 ∨ 3 < I.kind) : I.chk = 25 := by unfold chk; rw [if_pos h]
theorem chk_others {I : In} (h1 : 0 ≤ I.kind) (h2 : I.kind ≤ 3) (h : I.others = true) : I.chk = 4 := by unfold chk; rw [if_neg (by omega), if_pos h]
theorem chk_sized {I : In} (h1 : 0 ≤ I.kind) (h2 : I.kind ≤ 3) (h3 : I.others = false) (h : I.sized = false) : I.chk = 22 := by unfold chk; rw [if_neg (by omega), if_neg (by simp [h3]), if_pos h]
theorem chk_formed {I : In} (h1 : 0 ≤ I.kind) (h2 : I.kind ≤ 3) (h3 : I.others = false) (h4 : I.sized = true) (h : I.formed = false) : I.chk = 4 := by unfold chk; rw [if_neg (by omega), if_neg (by simp [h3]), if_neg (by simp [h4]), if_pos h]
theorem chk_fine {I : In} (h1 : 0 ≤ I.kind) (h2 : I.kind ≤ 3) (h3 : I.others = false) (h4 : I.sized = true) (h5 : I.formed = true) (h : I.fine = false) : I.chk = 22 := by unfold chk; rw [if_neg (by omega), if_neg (by simp [h3]), if_neg (by simp [h4]), if_neg (by simp [h5]), if_pos h]
theorem chk_last {I : In} (h1 : 0 ≤ I.kind) (h2 : I.kind ≤ 3) (h3 : I.others = false) (h4 : I.sized = true) (h5 : I.formed = true) (h6 : I.fine = true) : I.chk = if I.kind = 2 ∧ hol 0 I.cost = false then 4 else 0 := by unfold chk; rw [if_neg (by omega), if_neg (by simp [h3]), if_neg (by simp [h4]), if_neg (by simp [h5]), if_neg (by simp [h6])]
/-- Where it may be, each has as many numbers as there are rows. -/
theorem formed_row {I : In} (h : I.formed = true) {i : Nat} {r : List Int} (hr : I.cost[i]? = some r) : r.length = I.cost.length := by
  unfold formed at h
  simp only [Bool.and_eq_true, List.all_eq_true, decide_eq_true_eq] at h
  exact h.1 r (List.mem_of_getElem? hr)
end In
end Go.Proofs.YtbadingdklenhaaGreatDoor
