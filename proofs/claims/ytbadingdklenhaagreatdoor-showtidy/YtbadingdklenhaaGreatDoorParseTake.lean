/-
  What the reader's small functions do: take, word, number, limited, amount, another.
-/
import Derived.Test.YtbadingdklenhaaGreatDoorParseKit
namespace Go.Proofs.YtbadingdklenhaaGreatDoor
set_option maxRecDepth 100000
open Go.RowKit

/-- One token less. -/
theorem RdS.step {r g C k n m : Nat} {L : List Tk} {w : World} (h : RdS r g C L k w) (hn : L.length - k = n + 1) (hm : C - k = m + 1) (hk : k + 1 < L.length) : RdS r g C L (k + 1) (w.setCell ⟨r, 0, none⟩ (.slice (some ⟨g, k * 5 + 5, none⟩) n m)) := by
  have hs := h.size
  refine ⟨?_, ?_, ⟨by simp [World.setCell]; exact h.toks.1, fun j v' hj => ?_⟩, h.ne, h.le, h.mx, hk⟩
  · refine (World.cell?_setCell_same w ⟨r, 0, none⟩ _ h.cell).trans ?_
    rw [show L.length - (k + 1) = n by omega, show C - (k + 1) = m by omega, show (k + 1) * 5 = k * 5 + 5 by omega]
  · rw [World.frozen?_setCell]; exact h.fr
  · exact (World.cell?_of_block (w := w) (a := ⟨g, j, none⟩) (Below.heap_setCell _ _ _ _ h.ne)).trans (h.toks.2 j v' hj)
set_option maxHeartbeats 1000000 in
theorem take_no (r g C : Nat) (L : List Tk) (k c : Nat) (w : World) (h : RdS r g C L k w) (x : Tk) (hx : L[k]? = some x) (hc : x.kind ≠ c) :
    Calls Tryz.prog 67 #[.pointer (some ⟨r, 0, none⟩), .int .i64 (c : Nat)] w fun e w' => Dies L k 4 e ∧ Kb r w w' := by
  obtain ⟨t0, t1, t2, t3, t4⟩ := h.toks.get hx
  have cell := h.cell
  have hlt := h.lt
  have hle := h.le
  have hmx := h.mx
  unfold maxLen at hmx
  have hgs := h.toks.1
  have hrs := h.size
  obtain ⟨n, hn⟩ : ∃ n, L.length - k = n + 1 := ⟨L.length - k - 1, by omega⟩
  obtain ⟨m, hm⟩ : ∃ m, C - k = m + 1 := ⟨C - k - 1, by omega⟩
  rw [hn, hm] at cell
  have hkc : ¬ ((x.kind : Nat) : Int) = (c : Nat) := by omega
  have hF := fltV_at hx 4
  unfold Dies
  rw [hF]
  clear hF hc hx
  go_enter Tryz.func67, Tryz.ntmps67
  go_wp2
  exact ⟨rfl, rfl, ((Kb.refl r w).alloc _).alloc _⟩
set_option maxHeartbeats 1000000 in
theorem take_ok (r g C : Nat) (L : List Tk) (k c : Nat) (w : World) (h : RdS r g C L k w) (x : Tk) (hx : L[k]? = some x) (hc : x.kind = c) :
    Calls Tryz.prog 67 #[.pointer (some ⟨r, 0, none⟩), .int .i64 (c : Nat)] w fun e w' => e = .returned (tkV x) ∧ (k + 1 < L.length → RdS r g C L (k + 1) w') ∧ Kb r w w' := by
  obtain ⟨t0, t1, t2, t3, t4⟩ := h.toks.get hx
  have cell := h.cell
  have hlt := h.lt
  have hle := h.le
  have hmx := h.mx
  have hne := h.ne
  unfold maxLen at hmx
  have hgs := h.toks.1
  have hrs := h.size
  have hfr := h.fr
  obtain ⟨n, hn⟩ : ∃ n, L.length - k = n + 1 := ⟨L.length - k - 1, by omega⟩
  obtain ⟨m, hm⟩ : ∃ m, C - k = m + 1 := ⟨C - k - 1, by omega⟩
  have HS := Lib.hid (fun hk => RdS.step h hn hm hk)
  have HN : ¬ (k + 1 < L.length ∧ m = 0) := by omega
  have HN' := Lib.hid HN
  rw [hn, hm] at cell
  subst hc
  unfold tkV
  clear hx h hn hm HN hlt hle
  rcases Nat.eq_zero_or_pos m with hm0 | hm0
  · subst hm0
    clear HS
    go_enter Tryz.func67, Tryz.ntmps67
    go_wp2
    all_goals
      refine bodyPost_ret (v := tkV x) (by simp [results, Tryz.results67, go_sem, tkV]) rfl ⟨rfl, fun hk => absurd ⟨hk, by first | rfl | trivial⟩ HN'.out, ?_⟩
      exact (((Kb.refl r w).store rfl _).alloc _).alloc _
  · have hm1 : ¬ m = 0 := by omega
    go_enter Tryz.func67, Tryz.ntmps67
    go_wp2
    all_goals
      refine bodyPost_ret (v := tkV x) (by simp [results, Tryz.results67, go_sem, tkV]) rfl ⟨rfl, fun hk => ((HS.out hk).next (new_below _ _)).next (new_below _ _), ?_⟩
      exact (((Kb.refl r w).store rfl _).alloc _).alloc _
end Go.Proofs.YtbadingdklenhaaGreatDoor
