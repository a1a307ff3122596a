/-
  What Full does.
-/
import Derived.Test.YtooehfjappckmaaDoorEmptyWalks
namespace Go.Proofs.YtooehfjappckmaaDoor
set_option maxRecDepth 100000
open Go.RowKit

/-- A struct of two cells in a variable of its own. -/
structure SBox (b : Nat) (u v : Value) (w : World) : Prop where
  mk ::
  c0 : w.cell? ⟨b, 0, none⟩ = some u
  c1 : w.cell? ⟨b, 1, none⟩ = some v
  f0 : w.frozen? ⟨b, 0, none⟩ = false
  f1 : w.frozen? ⟨b, 1, none⟩ = false
  size : b < w.heap.size
theorem SBox.kept {b : Nat} {u v : Value} {w w' : World} (h : SBox b u v w) (e : w'.heap[b]? = w.heap[b]?) : SBox b u v w' := by
  refine ⟨by rw [World.cell?_of_block (w := w) (a := ⟨b, 0, none⟩) e]; exact h.c0, by rw [World.cell?_of_block (w := w) (a := ⟨b, 1, none⟩) e]; exact h.c1, by rw [World.frozen?_of_block (w := w) (a := ⟨b, 0, none⟩) e]; exact h.f0, by rw [World.frozen?_of_block (w := w) (a := ⟨b, 1, none⟩) e]; exact h.f1, ?_⟩
  rcases Nat.lt_or_ge b w'.heap.size with h' | h'
  · exact h'
  · rw [Array.getElem?_eq_none h', eq_comm] at e
    have := Array.getElem?_eq_none_iff.1 e
    have := h.size
    omega
theorem SBox.next {b : Nat} {u v : Value} {w w' : World} (h : SBox b u v w) (hb : Below w.heap.size w w') : SBox b u v w' := h.kept (hb.block b h.size)
theorem SBox.drew {b : Nat} {u v : Value} {w : World} (h : SBox b u v w) : SBox b u v w.drew := h.kept rfl
theorem SBox.other {b g j : Nat} {u v z : Value} {w : World} (h : SBox b u v w) (hne : b ≠ g) : SBox b u v (w.setCell ⟨g, j, none⟩ z) := h.kept (Below.heap_setCell _ _ _ _ hne)
theorem SBox.grown {b g : Nat} {u v : Value} {w w' : World} (h : SBox b u v w) (hg : w.grownBy w' (some g)) (hne : b ≠ g) : SBox b u v w' := h.kept (hg.block b h.size (by simpa using hne))
theorem sbox_new (w : World) (u v : Value) (t : Nat) : SBox w.heap.size u v (w.alloc (.cells #[u, v] t)) :=
  ⟨by simp [go_sem], by simp [go_sem], by simp [go_sem], by simp [go_sem], by simp⟩
theorem SBox.store {b : Nat} {u v u' v' : Value} {w : World} (h : SBox b u v w) : SBox b u' v' ((w.setCell ⟨b, 0, none⟩ u').setCell ⟨b, 1, none⟩ v') := by
  obtain ⟨c0, c1, f0, f1, hs⟩ := h
  exact ⟨by simp [go_sem, c0], by simp [go_sem, c1], by simpa [go_sem] using f0, by simpa [go_sem] using f1, by simpa [World.setCell] using hs⟩
theorem one_below (w : World) (o : Obj) : Below w.heap.size w (w.alloc o) := (Below.refl _ _).alloc (Nat.le_refl _) _
theorem store_below {a w : World} {b : Nat} (h : Below a.heap.size a w) (hb : a.heap.size ≤ b) (u v : Value) : Below a.heap.size a ((w.setCell ⟨b, 0, none⟩ u).setCell ⟨b, 1, none⟩ v) :=
  (h.setCell hb _).setCell hb _
theorem heap_store (w : World) {b k : Nat} (u v : Value) (h : k ≠ b) : ((w.setCell ⟨b, 0, none⟩ u).setCell ⟨b, 1, none⟩ v).heap[k]? = w.heap[k]? := by
  rw [Below.heap_setCell _ _ _ _ h, Below.heap_setCell _ _ _ _ h]

theorem full_bad (a : Int) (h : ¬ (0 ≤ a ∧ a ≤ 4096)) (w : World) :
    Calls Tryd.prog 9 #[.int .i64 a] w fun e w' => e = .returned (.tuple #[.agg #[.int .i64 0, .slice none 0 0], .int .i64 2]) ∧ Below w.heap.size w w' := by
  have F := fits_any a
  rw [decide_eq_false h] at F
  clear h
  go_enter Tryd.func9, Tryd.ntmps9
  go_wp2_with fail
  with_reducible refine (F _).mono ?_
  rintro e w1 ⟨rfl, rfl⟩
  go_wp2
  exact bodyPost_ret (v := .tuple #[.agg #[.int .i64 0, .slice none 0 0], .int .i64 2]) (by simp [results, Tryd.results9, go_sem]) rfl ⟨rfl, (Below.refl _ _).alloc (Nat.le_refl _) _⟩

theorem full_words (n : Nat) {D : List Nat} (hl : D.length = nw n) (h : ∀ j, j < nw n → D.getD j 0 = 18446744073709551615) : ∀ k, k < nw n → (cutL n D).getD k 0 = wd (fun i => decide (i < n)) k := by
  intro k hk
  rw [cut_is (q := fun _ => true) hl (fun j hj => ?_) k hk]
  · simp only [Bool.and_true]
  · rw [h j hj]
    refine wd_eq (by omega) fun i hi => ?_
    rw [show (18446744073709551615 : Nat) = 2 ^ 64 - 1 from rfl, Nat.testBit_two_pow_sub_one]
    simp [hi]

set_option maxHeartbeats 2000000 in
theorem full_good (n : Nat) (hn : n ≤ 4096) (w : World) :
    Calls Tryd.prog 9 #[.int .i64 n] w fun e w' => (∃ x cap, e = .returned (.tuple #[.agg #[.int .i64 n, .slice x (nw n) cap], .int .i64 0]) ∧ SetAt w' n (fun i => decide (i < n)) x cap) ∧ Below w.heap.size w w' := by
  have F := fits_any (n : Int)
  rw [decide_eq_true (by omega)] at F
  have E := empty_any n hn
  have hN := nw_le hn
  have Hn := Lib.hid hn
  clear hn
  go_enter Tryd.func9, Tryd.ntmps9
  go_wp2_with fail
  with_reducible refine (F _).mono ?_
  rintro e w1 ⟨rfl, rfl⟩
  go_wp2_with fail
  with_reducible refine (E _).mono ?_
  rintro e w1 ⟨rfl, O, b1⟩
  rw [World.size_alloc] at O
  have hR := (sbox_new w (.int .i64 0) (.slice none 0 0) 25).next b1
  have B := on (one_below w _) b1
  generalize hg : w.heap.size + 1 + 1 = g at O
  have hgl := O.lt
  rw [World.size_alloc, hg]
  have hS1 := B.size
  have hh : w.heap.size < g := by omega
  have HO := Lib.hid O
  have HR := Lib.hid hR
  have HB := Lib.hid B
  clear O b1 F E hR B hg
  go_wp2
  go_loopw [15] (fun i wr => ∃ (k : Nat) (D : List Nat), k ≤ nw n ∧ i = .int .i64 k ∧ OwnW wr g g (nw n) D ∧ (∀ j, j < k → D.getD j 0 = 18446744073709551615) ∧ SBox w1.heap.size (.int .i64 n) (.slice (some ⟨g, 0, none⟩) (nw n) (nw n)) wr ∧ SBox w.heap.size (.int .i64 0) (.slice none 0 0) wr ∧ Below w.heap.size w wr) (fun i _ => nw n - (intOf i).toNat)
  case atStart => exact ⟨0, _, by omega, rfl, HO.out.next (one_below _ _), fun j hj => by omega, sbox_new _ _ _ _, HR.out.next (one_below _ _), on HB.out (one_below _ _)⟩
  case round =>
    obtain ⟨k, D, hk, rfl, hO, hD, hT, hR, hB⟩ := hrel
    have hol := hO.lt
    have hlen := hO.len
    by_cases hlt : k < nw n
    · have hc := hO.get hlt
      have hf := World.frozenAt' hO k
      generalize D.getD k 0 = d at hc
      have HO := Lib.hid hO
      have HD := Lib.hid hD
      have HT := Lib.hid hT
      have HR := Lib.hid hR
      have HB := Lib.hid hB
      have HL := Lib.hid hlen
      obtain ⟨t0, t1, t2, t3, t4⟩ := hT
      clear hO hD hR hB hlen
      go_wp2
      go_roundw
      case rel =>
        refine ⟨k + 1, D.set k 18446744073709551615, by omega, by go_num, HO.out.put k _ rfl, fun j hj => ?_, HT.out.other (by omega), HR.out.other (by omega), HB.out.setCell (by show w.heap.size ≤ g; omega) _⟩
        have := HL.out
        rw [List.getD_eq_getElem?_getD]
        by_cases e : j = k
        · subst e; rw [List.getElem?_set_self (by omega)]; rfl
        · rw [List.getElem?_set_ne (by omega), ← List.getD_eq_getElem?_getD]; exact HD.out j (by omega)
      case measure => simp [intOf]; omega
    · obtain rfl : k = nw n := by omega
      have hDl : ∀ j, j < nw n → D.getD j 0 < 18446744073709551616 := fun j hj => by rw [hD j hj]; omega
      have FW := Lib.hid (full_words n hlen hD)
      have CU := cut_any n g g D Hn.out hDl wr hO
      have HT := Lib.hid hT
      have HR := Lib.hid hR
      have HB := Lib.hid hB
      obtain ⟨t0, t1, t2, t3, t4⟩ := hT
      clear hO hD hR hB hlen hDl
      go_wp2_with fail
      with_reducible refine CU.mono ?_
      rintro e w2 ⟨rfl, O2, g2⟩
      have T2 := HT.out.grown g2 (by omega)
      have R2 := HR.out.grown g2 (by omega)
      have B2 := HB.out.grown g2 (by have := HB.out.size; omega) (fun k hk => by injection hk with hk; omega)
      have HO2 := Lib.hid O2
      have HB2 := Lib.hid B2
      have HR2 := Lib.hid R2
      obtain ⟨t0, t1, t2, t3, t4⟩ := T2
      obtain ⟨r0, r1, r2, r3, r4⟩ := R2
      clear O2 B2 g2 HT HR HB
      go_wp2
      refine bodyPost_ret (v := .tuple #[.agg #[.int .i64 n, .slice (some ⟨g, 0, none⟩) (nw n) (nw n)], .int .i64 0]) (by simp [results, Tryd.results9, go_sem, r0, r1]) rfl ⟨⟨_, _, rfl, Hn.out, fun i hi => decide_eq_false (by omega), ?_⟩, store_below HB2.out (Nat.le_refl _) _ _⟩
      exact (HO2.out.kept (heap_store _ _ _ (by omega))).words FW.out
end Go.Proofs.YtooehfjappckmaaDoor
