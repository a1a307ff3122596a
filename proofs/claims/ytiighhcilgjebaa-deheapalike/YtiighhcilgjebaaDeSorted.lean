/-
  What Sorted of a heap of either kind answers (layer 7): all it holds, in their order, in a row of the call's own.
-/
import Derived.Test.YtiighhcilgjebaaDeMoves
namespace Go.Proofs.Ytiighhcilgjebaa
set_option maxRecDepth 100000
open Go.RowKit Go.Sort

theorem sort_anyD (l : List En) (hl : l.length ≤ 100) (v : Value) (w : World) (h : Lists w v l) : Calls Try.prog 32 #[v] w (IsSorted l w) := by
  rcases h with ⟨rfl, rfl⟩ | ⟨g, c, rfl, hL⟩
  · exact sort_nil w
  · exact sort_some l hl g c w hL
/-- What Sorted answers. -/
def SortedOk (m : List En) (w : World) (e : Ending) (w' : World) : Prop :=
  ∃ v, e = .returned v ∧ w'.ownsRow w.heap.size 32 4 v m.length (flatE m) ∧ Below w.heap.size w w'
theorem sorted_nil (w : World) : Calls Try.prog 16 #[.pointer none] w fun e w' => e = .returned (.slice none 0 0) ∧ w = w' := by
  have C := len_nilD w
  go_enter Try.func16, Try.ntmps16
  go_wp2_with fail
  with_reducible refine C.mono ?_
  rintro e w' ⟨rfl, rfl⟩
  clear C
  go_wp2
  go_ret
  exact ⟨rfl, rfl⟩
theorem sorted_none (v : Value) (w : World) (C : Calls Try.prog 13 #[v] w fun e w' => e = .returned (.int .i64 0) ∧ w = w') : Calls Try.prog 16 #[v] w (SortedOk [] w) := by
  have E := Lib.hid (World.ownsRow_nil w w.heap.size 32 4)
  unfold SortedOk
  go_enter Try.func16, Try.ntmps16
  go_wp2_with fail
  with_reducible refine C.mono ?_
  rintro e w' ⟨rfl, rfl⟩
  clear C
  go_wp2
  go_ret
  exact ⟨_, rfl, E.out, Below.refl _ _⟩
set_option maxHeartbeats 1000000 in
theorem sortedM (w : World) (db hb : Nat) (v : Value) (l : List En) (most : Int) (h : DeAt w db false hb v l most) (h0 : 0 < l.length) (hl : l.length ≤ 100) : Calls Try.prog 16 #[.pointer (some ⟨db, 0, none⟩)] w (SortedOk (srt l) w) := by
  have L1 := len_anyD w db false hb v l most h
  have c0 := h.c0
  unfold ifc at c0
  have q := methMList hb
  have T := list_any w 0 hb v l (by omega) h.at_
  have HL := Lib.hid hl
  obtain ⟨n, en⟩ : ∃ n, l.length = n := ⟨_, rfl⟩
  rw [en] at L1 h0
  have hn : ((n : Int) == 0) = false := by simp; omega
  have HEN := Lib.hid en
  clear h en hl
  go_enter Try.func16, Try.ntmps16
  go_wp2_with fail
  with_reducible refine L1.mono ?_
  rintro e w' ⟨rfl, rfl⟩
  clear L1
  go_wp2_with fail
  with_reducible refine T.mono ?_
  rintro e w1 ⟨rfl, hb1, be1⟩
  have S := sort_anyD l HL.out _ w1 (lists_own (IsCopied.row (B := w.heap.size) (by have := HL.out; omega) (Nat.le_refl _) hb1))
  have HB1 := Lib.hid be1
  clear hb1 be1 T
  go_wp2_with fail
  with_reducible refine S.mono ?_
  rintro e w2 ⟨rfl, hb2, be2⟩
  have E : Hid (SortedOk (srt l) w (.returned (.slice (some ⟨w1.heap.size, 0, none⟩) l.length l.length)) w2) := by
    have hs := HB1.out.size
    have R := IsCopied.row (l := srt l) (w := w1) (B := w.heap.size) (by rw [srt_length]; have := HL.out; omega) hs hb2
    rw [srt_length] at R
    refine ⟨_, rfl, ?_, HB1.out.trans (be2.mono hs)⟩
    rw [srt_length]
    exact R
  clear hb2 be2 S
  go_wp2
  go_ret
  exact E.out
set_option maxHeartbeats 1000000 in
theorem sortedI (w : World) (db hb : Nat) (v : Value) (l : List En) (most : Int) (h : DeAt w db true hb v l most) (h0 : 0 < l.length) (hl : l.length ≤ 100) : Calls Try.prog 16 #[.pointer (some ⟨db, 0, none⟩)] w (SortedOk (srt l) w) := by
  have L1 := len_anyD w db true hb v l most h
  have c0 := h.c0
  unfold ifc at c0
  have q := methIList hb
  have T := I.list_any w 0 hb v l (by omega) h.at_
  have HL := Lib.hid hl
  obtain ⟨n, en⟩ : ∃ n, l.length = n := ⟨_, rfl⟩
  rw [en] at L1 h0
  have hn : ((n : Int) == 0) = false := by simp; omega
  have HEN := Lib.hid en
  clear h en hl
  go_enter Try.func16, Try.ntmps16
  go_wp2_with fail
  with_reducible refine L1.mono ?_
  rintro e w' ⟨rfl, rfl⟩
  clear L1
  go_wp2_with fail
  with_reducible refine T.mono ?_
  rintro e w1 ⟨rfl, hb1, be1⟩
  have S := sort_anyD l HL.out _ w1 (lists_own (IsCopied.row (B := w.heap.size) (by have := HL.out; omega) (Nat.le_refl _) hb1))
  have HB1 := Lib.hid be1
  clear hb1 be1 T
  go_wp2_with fail
  with_reducible refine S.mono ?_
  rintro e w2 ⟨rfl, hb2, be2⟩
  have E : Hid (SortedOk (srt l) w (.returned (.slice (some ⟨w1.heap.size, 0, none⟩) l.length l.length)) w2) := by
    have hs := HB1.out.size
    have R := IsCopied.row (l := srt l) (w := w1) (B := w.heap.size) (by rw [srt_length]; have := HL.out; omega) hs hb2
    rw [srt_length] at R
    refine ⟨_, rfl, ?_, HB1.out.trans (be2.mono hs)⟩
    rw [srt_length]
    exact R
  clear hb2 be2 S
  go_wp2
  go_ret
  exact E.out
theorem sortedD (w : World) {F : Nat → Prop} {db : Nat} {k : Bool} {m : List En} {most : Int} (hl : m.length ≤ 100) (h : De w F db k m most) : Calls Try.prog 16 #[.pointer (some ⟨db, 0, none⟩)] w (SortedOk m w) := by
  obtain ⟨hb, v, l, hd, rfl, h3, h4⟩ := h.at_
  rw [srt_length] at hl
  by_cases h0 : 0 < l.length
  · cases k
    · exact sortedM w db hb v l most hd h0 hl
    · exact sortedI w db hb v l most hd h0 hl
  · obtain rfl : l = [] := List.eq_nil_of_length_eq_zero (by omega)
    have e0 : srt [] = [] := List.eq_nil_of_length_eq_zero (by rw [srt_length]; rfl)
    rw [e0]
    exact sorted_none _ w (len_anyD w db k hb v [] most hd)
end Go.Proofs.Ytiighhcilgjebaa
