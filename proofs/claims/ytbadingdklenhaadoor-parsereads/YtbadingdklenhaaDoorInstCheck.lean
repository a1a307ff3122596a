/-
  What package inst's Check and N do (layer 9).
-/
import Derived.Test.YtbadingdklenhaaDoorInstBound
namespace Go.Proofs.YtbadingdklenhaaDoor
set_option maxRecDepth 100000
open Go.RowKit

theorem Ins.lens {F G : Nat → Prop} {w : World} {I : In} {vi vc vs : Value} {uc us : List Value} (hi : Its F w vi I.items) (hc : Rws F G w vc I.cost uc) (hs : Sts F G w vs I.sets us) : Lens I vi vc vs := by
  obtain ⟨A0, C0, rfl, _, _⟩ := hi.form
  obtain ⟨A, C, rfl, _, _⟩ := hc.form
  obtain ⟨A2, C2, rfl, _, _⟩ := hs.form
  exact ⟨⟨_, _, rfl⟩, ⟨_, _, rfl⟩, ⟨_, _, rfl⟩⟩
theorem name_empty {k : Int} (h : k < 0 ∨ 3 < k) : name k = ⟨#[]⟩ := if_pos h
theorem name_full {k : Int} (h : ¬ (k < 0 ∨ 3 < k)) : (name k).toList.isEmpty = false := by
  have e : name k = word k.toNat := if_neg h
  rw [e]
  have h4 : k.toNat < 4 := by omega
  match k.toNat, h4 with
  | 0, _ => decide +kernel
  | 1, _ => decide +kernel
  | 2, _ => decide +kernel
  | 3, _ => decide +kernel
theorem sized_size {I : In} (h : I.sized = true) : I.size ≤ 4096 := by
  unfold In.sized at h
  simp only [Bool.and_eq_true, decide_eq_true_eq] at h
  omega

theorem dec_bad {I : In} (h : ¬ I.chk = 0) : I.dec = 0 := if_neg h
theorem dec_good {I : In} (h : I.chk = 0) : I.dec = (if I.kind = 0 then (I.items.length : Int) else if I.kind = 1 then (I.cost.length : Int) else if I.kind = 2 then (I.cost.length : Int) - 1 else (I.sets.length : Int)) := if_pos h
theorem chk_cost {I : In} (h : I.chk = 0) (h2 : I.kind = 2) : 1 ≤ I.cost.length ∧ I.cost.length ≤ 64 := by
  unfold In.chk at h
  split at h
  · omega
  · split at h
    · omega
    · split at h
      · omega
      · rename_i _ _ hz
        have hz : I.sized = true := by simpa using hz
        unfold In.sized at hz
        simp only [Bool.and_eq_true, decide_eq_true_eq, Bool.or_eq_true, Bool.not_eq_true', Bool.or_eq_false_iff, decide_eq_false_iff_not] at hz
        omega

end Go.Proofs.YtbadingdklenhaaDoor
