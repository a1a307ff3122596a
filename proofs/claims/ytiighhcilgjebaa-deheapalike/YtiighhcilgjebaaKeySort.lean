/-
  What package key's Sort does (layer 4): by the library's slices.SortFunc, over a copy.
-/
import Derived.Test.YtiighhcilgjebaaKeyRows
import Derived.Test.YtiighhcilgjebaaSortLays
namespace Go.Proofs.Ytiighhcilgjebaa
set_option maxRecDepth 100000
open Go.RowKit Go.Sort

theorem flatK_eq (l : List En) : flatK encE 4 l.toArray = (flatE l).toArray := by
  apply Array.ext_getElem?
  intro t
  rcases Nat.lt_or_ge t (l.length * 4) with h | h
  · rw [show (flatE l).toArray[t]? = (flatE l)[t]? by simp, flatE_get h]
    have hs : t < (flatK encE 4 l.toArray).size := by simpa using h
    rw [Array.getElem?_eq_getElem hs]
    have := get_flatK encE 4 l.toArray t (by simpa using h)
    rw [getElem!_pos (flatK encE 4 l.toArray) t hs] at this
    rw [this]
  · rw [show (flatE l).toArray[t]? = (flatE l)[t]? by simp, Array.getElem?_eq_none (by simpa using h), List.getElem?_eq_none (by rw [flatE_length]; exact h)]
theorem ltOf_ecm : ltOf ecm = eltB := rfl
theorem holdsK_block {w : World} {g : Nat} {t : TypeId} {l : List En} (h : w.heap[g]? = some (.cells (flatE l).toArray t (0, 0))) : HoldsK encE 4 w g 0 l.toArray := by
  unfold HoldsK
  rw [flatK_eq]
  intro j hj
  rw [Nat.zero_add]
  constructor
  · rw [cell_of_row w g j _ t (0, 0) h, Array.getElem?_eq_getElem hj, getElem!_pos (flatE l).toArray j hj]
    rfl
  · exact frozen_of_row w g j _ t h

theorem sortfunc_any (g cap : Nat) (l : List En) (hl : l.length ≤ 4611686018427387903) (w : World) (hH : HoldsK encE 4 w g 0 l.toArray) (hg : g < w.heap.size) :
    Calls Try.prog 39 #[.slice (some ⟨g, 0, none⟩) l.length cap, .func (.func 35) #[] #[]] w fun e w' => e = .returned (.tuple #[]) ∧ ∃ n os, w' = sortWorldK encE 4 w g 0 n (srt l).toArray os := by
  have eg : ∀ args w, (callFunc 35 args).run Try.prog w = .ok (.enter 35 args) w := enters_of Try.func35 (by kernel_rfl) rfl
  have hcmp : CmpLays Try.prog 35 #[] encE 4 ecm g 0 l.toArray.size w := fun m os dk _ x y => entries_any x y _
  have h := AnyQ.slices_SortFunc_total Try.laysSort 4 Try.isAgg32 Try.sizeOf32 encE (fun _ => rfl) (fun x v hv => by simp [encE] at hv; rcases hv with rfl | rfl | rfl | rfl <;> rfl) ecm swoE 35 #[] g 0 cap l.toArray w eg hcmp hH hg (by simp; omega) totE
  have e : (l.toArray.toList.mergeSort fun x y => !(ltOf ecm) y x) = srt l := rfl
  rw [e] at h
  change Calls Try.prog 39 _ _ _ at h
  simpa using h
end Go.Proofs.Ytiighhcilgjebaa
