/-
  What package key's Sort does (layer 4): the entries of a list in their order, in a row of their own.
-/
import Derived.Test.YtiighhcilgjebaaKeySort
namespace Go.Proofs.Ytiighhcilgjebaa
set_option maxRecDepth 100000
open Go.RowKit Go.Sort

theorem put_all (F c : Array Value) (h : c.size = F.size) : putCells id 0 F c = F := by
  unfold putCells
  apply Array.ext_getElem?
  intro k
  rw [Array.getElem?_mapIdx]
  rcases Nat.lt_or_ge k F.size with hk | hk
  · rw [Array.getElem?_eq_getElem hk, Array.getElem?_eq_getElem (by omega)]
    simp [hk]
  · rw [Array.getElem?_eq_none hk, Array.getElem?_eq_none (by omega)]
    rfl
theorem sort_world {W : World} {g n : Nat} {t : TypeId} {l : List En} {os : Array Obj} (h : W.heap[g]? = some (.cells (flatE l).toArray t (0, 0))) :
    (sortWorldK encE 4 W g 0 n (srt l).toArray os).heap[g]? = some (.cells (flatE (srt l)).toArray t (0, 0)) ∧ (∀ B, B ≤ g → Below B W (sortWorldK encE 4 W g 0 n (srt l).toArray os)) := by
  have hlt : g < W.heap.size := (Array.getElem?_eq_some_iff.1 h).1
  have hz : (sortWorldK encE 4 W g 0 n (srt l).toArray os).heap = W.heap.modify g (onCells (putCells id 0 (flatE (srt l)).toArray)) ++ os := by
    unfold sortWorldK putRowK
    rw [flatK_eq]
    rfl
  constructor
  · rw [hz, Array.getElem?_append_left (by simpa using hlt), Array.getElem?_modify, if_pos rfl, h]
    show some (Obj.cells (putCells id 0 (flatE (srt l)).toArray (flatE l).toArray) t (0, 0)) = _
    rw [put_all _ _ (by simp [flatE_length, srt_length])]
  · intro B hB
    refine ⟨rfl, rfl, rfl, ?_, fun k hk => ?_⟩
    · rw [hz]; simp
    · rw [hz, Array.getElem?_append_left (by simp; omega), Array.getElem?_modify, if_neg (by omega)]

/-- What Sort answers: a row of its own. -/
def IsSorted (l : List En) (w : World) (e : Ending) (w' : World) : Prop :=
  e = .returned (.slice (some ⟨w.heap.size, 0, none⟩) l.length l.length) ∧ w'.heap[w.heap.size]? = some (.cells (flatE (srt l)).toArray 32 (0, 0)) ∧ Below w.heap.size w w'

set_option maxHeartbeats 1000000 in
theorem sort_list (l : List En) (hl : l.length ≤ 100) (p : Option Addr) (c : Nat) (w : World)
    (hc : ∀ W ty, W.heap[w.heap.size]? = some (.cells (madeCells #[.int .i64 0, .int .i64 0, .int .i64 0, .int .i64 0] (l.length * 4)) 32 (0, 0)) → Below w.heap.size w W → ∃ n : Int, ∃ W', (Builtin.copy_ #[25, 25] ty #[.slice (some ⟨w.heap.size, 0, none⟩) l.length l.length, .slice p l.length c]).run Try.prog W = .ok (.int .i64 n) W' ∧ W'.heap[w.heap.size]? = some (.cells (flatE l).toArray 32 (0, 0)) ∧ Below w.heap.size w W') :
    Calls Try.prog 32 #[.slice p l.length c] w (IsSorted l w) := by
  obtain ⟨i0, hi, hz0, hz1, hz2⟩ := info_parts' infoE
  have hmk : ∀ W, (Instr.makeSlice 25 (.int .i64 (l.length : Int)) (.int .i64 (l.length : Int))).run Try.prog W = .ok (.slice (some ⟨W.heap.size, 0, none⟩) l.length l.length) (W.alloc (.cells (madeCells #[.int .i64 0, .int .i64 0, .int .i64 0, .int .i64 0] (l.length * 4)) 32)) := by
    intro W
    have := run_make (P := Try.prog) W 25 32 i0 _ Try.underlying25 hi hz0 .i64 .i64 (l.length : Int) (l.length : Int) (by omega) (by omega) (by rw [hz2]; omega) (by omega)
    rw [hz1] at this
    simpa [Value.cells] using this
  have hC := hc (w.alloc (.cells (madeCells #[.int .i64 0, .int .i64 0, .int .i64 0, .int .i64 0] (l.length * 4)) 32)) 3 (by rw [heap_alloc_new]) ((Below.refl _ _).alloc (Nat.le_refl _) _)
  obtain ⟨n0, W1, hrun, hg1, hb1⟩ := hC
  have hsz1 : w.heap.size < W1.heap.size := (Array.getElem?_eq_some_iff.1 hg1).1
  have SF := sortfunc_any w.heap.size l.length l (by omega) W1 (holdsK_block hg1) hsz1
  have HG := Lib.hid hg1
  have HB := Lib.hid hb1
  unfold IsSorted
  obtain ⟨N, hN⟩ : ∃ N, l.length = N := ⟨_, rfl⟩
  have HN := Lib.hid hN
  rw [hN] at hmk hrun SF ⊢
  clear hc hg1 hb1 hN hl hi hz0 hz1 hz2 hsz1
  go_enter Try.func32, Try.ntmps32
  go_wp2_with (first | (at_builtin; refine wpList_copy_k rfl _ _ _ _ rfl _ _ rfl rfl _ _ hrun ?_) | fail)
  with_reducible refine SF.mono ?_
  rintro e w2 ⟨rfl, n, os, rfl⟩
  obtain ⟨k1, k2⟩ := sort_world (n := n) (os := os) HG.out
  have K1 := Lib.hid k1
  have K2 := Lib.hid (HB.out.trans (k2 _ (Nat.le_refl _)))
  clear k1 k2 hrun hmk SF
  generalize sortWorldK encE 4 W1 w.heap.size 0 n (srt l).toArray os = w3 at *
  go_wp2
  go_ret
  exact ⟨rfl, K1.out, K2.out⟩

theorem sort_some (l : List En) (hl : l.length ≤ 100) (g c : Nat) (w : World) (h : ListAt w g l) : Calls Try.prog 32 #[.slice (some ⟨g, 0, none⟩) l.length c] w (IsSorted l w) := by
  refine sort_list l hl _ c w (fun W ty hW hb => ?_)
  have hr := run_copy_k (P := Try.prog) W 25 25 ty 32 4 w.heap.size l.length l.length ⟨g, 0, none⟩ l.length c _ 32 (flatE l) Try.underlying25 sizeE hW (by rw [flatE_length]; simp) (fun j v hj => by
    rw [add0, hb.cell (by exact h.1)]
    exact h.2 j v hj) (by rw [flatE_length, made_size]) flatE_one
  exact ⟨_, _, hr, setRow_heap W w.heap.size _ _ _ _ hW, below_setRow hb (Nat.le_refl _) _⟩
theorem sort_nil (w : World) : Calls Try.prog 32 #[.slice none 0 0] w (IsSorted [] w) := by
  refine sort_list [] (by simp) none 0 w (fun W ty hW hb => ?_)
  have hr := run_copy_nil (P := Try.prog) W 25 25 ty 32 ⟨w.heap.size, 0, none⟩ 0 0 Try.underlying25 (by rw [sizeE]; rfl)
  exact ⟨_, _, hr, hW.trans (by simp [flatE_nil, madeCells]), hb⟩
end Go.Proofs.Ytiighhcilgjebaa
