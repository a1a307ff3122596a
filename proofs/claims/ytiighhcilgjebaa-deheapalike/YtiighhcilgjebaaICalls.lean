/-
  What the calls of a heap do (layer 6): New, Build, Len, List.
-/
import Derived.Test.YtiighhcilgjebaaISink
import Derived.Deep.Onto
namespace Go.Proofs.Ytiighhcilgjebaa.I
set_option maxRecDepth 100000
open Go.RowKit Go.Sort

abbrev HeapAt := HeapAtT 94
abbrev Built := BuiltT 94 I.Right

set_option maxHeartbeats 1000000 in
theorem copied_list (l : List En) (hl : l.length ≤ 1000) (p : Option Addr) (c : Nat) (w : World)
    (hc : ∀ W ty, W.heap[w.heap.size]? = some (.cells (madeCells #[.int .i64 0, .int .i64 0, .int .i64 0, .int .i64 0] (l.length * 4)) 32 (0, 0)) → Below w.heap.size w W → ∃ n : Int, ∃ W', (Builtin.copy_ #[25, 25] ty #[.slice (some ⟨w.heap.size, 0, none⟩) l.length l.length, .slice p l.length c]).run Try.prog W = .ok (.int .i64 n) W' ∧ W'.heap[w.heap.size]? = some (.cells (flatE l).toArray 32 (0, 0)) ∧ Below w.heap.size w W') :
    Calls Try.prog 44 #[.slice p l.length c] w (IsCopied l w) := by
  obtain ⟨i0, hi, hz0, hz1, hz2⟩ := info_parts' infoE
  have hmk : ∀ W, (Instr.makeSlice 25 (.int .i64 (l.length : Int)) (.int .i64 (l.length : Int))).run Try.prog W = .ok (.slice (some ⟨W.heap.size, 0, none⟩) l.length l.length) (W.alloc (.cells (madeCells #[.int .i64 0, .int .i64 0, .int .i64 0, .int .i64 0] (l.length * 4)) 32)) := by
    intro W
    have := run_make (P := Try.prog) W 25 32 i0 _ Try.underlying25 hi hz0 .i64 .i64 (l.length : Int) (l.length : Int) (by omega) (by omega) (by rw [hz2]; omega) (by omega)
    rw [hz1] at this
    simpa [Value.cells] using this
  have hC := hc (w.alloc (.cells (madeCells #[.int .i64 0, .int .i64 0, .int .i64 0, .int .i64 0] (l.length * 4)) 32)) 3 (by rw [heap_alloc_new]) ((Below.refl _ _).alloc (Nat.le_refl _) _)
  obtain ⟨n0, W1, hrun, hg1, hb1⟩ := hC
  have HG := Lib.hid hg1
  have HB := Lib.hid hb1
  unfold IsCopied
  obtain ⟨N, hN⟩ : ∃ N, l.length = N := ⟨_, rfl⟩
  rw [hN] at hmk hrun ⊢
  clear hc hg1 hb1 hN hl hi hz0 hz1 hz2
  go_enter Try.func44, Try.ntmps44
  go_wp2_with (first | (at_builtin; refine wpList_copy_k rfl _ _ _ _ rfl _ _ rfl rfl _ _ hrun ?_) | fail)
  go_ret
  exact ⟨rfl, HG.out, HB.out⟩
theorem copied_some (l : List En) (hl : l.length ≤ 1000) (g c : Nat) (w : World) (h : ListAt w g l) : Calls Try.prog 44 #[.slice (some ⟨g, 0, none⟩) l.length c] w (IsCopied l w) := by
  refine copied_list l hl _ c w (fun W ty hW hb => ?_)
  have hr := run_copy_k (P := Try.prog) W 25 25 ty 32 4 w.heap.size l.length l.length ⟨g, 0, none⟩ l.length c _ 32 (flatE l) Try.underlying25 sizeE hW (by rw [flatE_length]; simp) (fun j v hj => by
    rw [add0, hb.cell (by exact h.1)]
    exact h.2 j v hj) (by rw [flatE_length, made_size]) flatE_one
  exact ⟨_, _, hr, setRow_heap W w.heap.size _ _ _ _ hW, below_setRow hb (Nat.le_refl _) _⟩
theorem copied_nil (w : World) : Calls Try.prog 44 #[.slice none 0 0] w (IsCopied [] w) := by
  refine copied_list [] (by simp) none 0 w (fun W ty hW hb => ?_)
  have hr := run_copy_nil (P := Try.prog) W 25 25 ty 32 ⟨w.heap.size, 0, none⟩ 0 0 Try.underlying25 (by rw [sizeE]; rfl)
  exact ⟨_, _, hr, hW.trans (by simp [flatE_nil, madeCells]), hb⟩
theorem copied_any (l : List En) (hl : l.length ≤ 1000) (v : Value) (w : World) (h : Lists w v l) : Calls Try.prog 44 #[v] w (IsCopied l w) := by
  rcases h with ⟨rfl, rfl⟩ | ⟨g, c, rfl, hL⟩
  · exact copied_nil w
  · exact copied_some l hl g c w hL
theorem len_nil (w : World) : Calls Try.prog 100 #[.pointer none] w fun e w' => e = .returned (.int .i64 0) ∧ w = w' := by
  go_enter Try.func100, Try.ntmps100
  go_wp2
  go_ret
  exact ⟨rfl, rfl⟩
theorem len_any (w : World) (B hb : Nat) (v : Value) (l : List En) (h : HeapAt w B hb v l) : Calls Try.prog 100 #[.pointer (some ⟨hb, 0, none⟩)] w fun e w' => e = .returned (.int .i64 (l.length : Int)) ∧ w = w' := by
  obtain ⟨p, c, rfl⟩ := h.slice
  have hc := h.cell
  generalize l.length = n at *
  clear h
  go_enter Try.func100, Try.ntmps100
  go_wp2
  go_ret
  exact ⟨rfl, rfl⟩
theorem list_nil (w : World) : Calls Try.prog 101 #[.pointer none] w fun e w' => e = .returned (.slice none 0 0) ∧ w = w' := by
  go_enter Try.func101, Try.ntmps101
  go_wp2
  go_ret
  exact ⟨rfl, rfl⟩
theorem list_any (w : World) (B hb : Nat) (v : Value) (l : List En) (hl : l.length ≤ 1000) (h : HeapAt w B hb v l) : Calls Try.prog 101 #[.pointer (some ⟨hb, 0, none⟩)] w (IsCopied l w) := by
  have C := copied_any l hl v w (lists_own h.row)
  have hc := h.cell
  clear h
  go_enter Try.func101, Try.ntmps101
  go_wp2_with fail
  with_reducible refine C.mono ?_
  rintro e w' hC
  have hC' := hC
  obtain ⟨rfl, h1, h2⟩ := hC'
  have HC := Lib.hid hC
  clear h1 h2 hC hc
  go_wp2
  go_ret
  exact HC.out

set_option maxHeartbeats 1000000 in
theorem build_any (l : List En) (hl : l.length ≤ 1000) (v : Value) (w : World) (h : Lists w v l) : Calls Try.prog 37 #[v] w (Built l w) := by
  have C := copied_any l hl v w h
  obtain ⟨n, en⟩ : ∃ n, l.length = n := ⟨_, rfl⟩
  have HEN := Lib.hid en
  unfold IsCopied at C
  rw [en] at C
  clear h
  rw [en] at hl
  clear en
  go_enter Try.func37, Try.ntmps37
  go_wp2_with fail
  with_reducible refine C.mono ?_
  rintro e w1 ⟨rfl, h1, h2⟩
  have hsz : w.heap.size < w1.heap.size := (Array.getElem?_eq_some_iff.1 h1).1
  have R1 : Row w.heap.size w.heap.size n n l (w1.alloc (.cells #[.slice (some ⟨w.heap.size, 0, none⟩) n n] 94)) := by
    have r := IsCopied.row (B := w.heap.size) (by rw [HEN.out]; exact hl) (Nat.le_refl _) h1
    rw [HEN.out] at r
    exact r.alloc _
  have AR := arrange_any l (by rw [HEN.out]; exact hl) w.heap.size w.heap.size n _ (by rw [HEN.out]; exact R1)
  rw [HEN.out] at AR
  have HB := Lib.hid (h2.alloc h2.size (.cells #[.slice (some ⟨w.heap.size, 0, none⟩) n n] 94))
  have HN := Lib.hid (heap_alloc_new w1 (.cells #[.slice (some ⟨w.heap.size, 0, none⟩) n n] 94))
  have hsz2 : w1.heap.size < (w1.alloc (.cells #[.slice (some ⟨w.heap.size, 0, none⟩) n n] 94)).heap.size := by simp
  have HSZ2 := Lib.hid hsz2
  clear h1 h2 R1 C hsz2
  go_wp2_with fail
  with_reducible refine AR.mono ?_
  rintro e w2 ⟨l', rfl, r2, g2, p2, q2⟩
  have E : Hid (Built l w (.returned (.pointer (some ⟨w1.heap.size, 0, none⟩))) w2) := by
    have hlen : l'.length = n := by rw [p2.length_eq, HEN.out]
    refine ⟨w1.heap.size, .slice (some ⟨w.heap.size, 0, none⟩) n n, l', rfl, ⟨?_, by omega, by rw [hlen]; exact r2, ?_⟩, p2, q2, HB.out.grown g2 (by simp; omega) (fun q hq => by simp at hq; omega)⟩
    · rw [g2.block _ HSZ2.out (by simp; omega)]
      exact HN.out
    · intro q hq
      simp [Value.ownBlock] at hq
      omega
  clear r2 g2 p2 q2 AR
  go_wp2
  go_ret
  exact E.out

theorem len0 {w : World} {B hb : Nat} {v : Value} (h : HeapAt w B hb v []) (w' : World) (hb' : Below w.heap.size w w') : Calls Try.prog 100 #[.pointer (some ⟨hb, 0, none⟩)] w' fun e w'' => e = .returned (.int .i64 0) ∧ w' = w'' := len_any w' B hb v [] (h.next hb')
end Go.Proofs.Ytiighhcilgjebaa.I
