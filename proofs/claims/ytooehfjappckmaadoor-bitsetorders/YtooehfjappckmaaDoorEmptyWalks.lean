/-
  What empty, cut, New, Full do: sets in memory of their own.
-/
import Derived.Test.YtooehfjappckmaaDoorBitWalks
import Derived.Deep.OwnRows
namespace Go.Proofs.YtooehfjappckmaaDoor
set_option maxRecDepth 100000
open Go.RowKit

/-- A word in its cell. -/
def cellU (d : Nat) : Value := .int .u64 (d : Int)
theorem infoU : (Tryd.prog.info? 52).map (fun i => (i.zero, i.size, i.bytes)) = some (some (.int .u64 0), 1, 8) := by kernel_rfl
theorem info_parts {e : TypeId} {z : Value} {m n : Nat} (h : (Tryd.prog.info? e).map (fun i => (i.zero, i.size, i.bytes)) = some (some z, m, n)) : ∃ i, Tryd.prog.info? e = some i ∧ i.zero = some z ∧ i.size = m ∧ i.bytes = n := by
  simp only [Option.map_eq_some_iff, Prod.mk.injEq] at h
  obtain ⟨i, h1, h2, h3, h4⟩ := h
  exact ⟨i, h1, h2, h3, h4⟩

/-- A row of words of the call's own, at block g. -/
def OwnW (w : World) (base g N : Nat) (D : List Nat) : Prop := w.ownsRow base 52 1 (.slice (some ⟨g, 0, none⟩) N N) N (D.map cellU)
theorem OwnW.get {w : World} {base g N j : Nat} {D : List Nat} (h : OwnW w base g N D) (hj : j < N) :
    w.cell? ⟨g, j, none⟩ = some (.int .u64 ((D.getD j 0 : Nat) : Int)) := by
  have hl : D.length = N := by have := h.1; simpa using this
  rw [World.ownsRow.cellAt h j (by omega)]
  simp [cellU, List.getD_eq_getElem?_getD, hl, hj]
theorem OwnW.put {w : World} {base g N : Nat} {D : List Nat} {z : Int} (h : OwnW w base g N D) (j v : Nat) (hz : z = (v : Int)) :
    OwnW (w.setCell ⟨g, j, none⟩ (.int .u64 z)) base g N (D.set j v) := by
  subst hz; unfold OwnW; rw [List.map_set]; exact (World.ownsRow.stored h j (cellU v)).1
theorem World.frozenAt' {w : World} {base g N : Nat} {D : List Nat} (h : OwnW w base g N D) (j : Nat) : w.frozen? ⟨g, j, none⟩ = false := World.ownsRow.frozenAt h j
theorem OwnW.len {w : World} {base g N : Nat} {D : List Nat} (h : OwnW w base g N D) : D.length = N := by have := h.1; simpa using this
theorem OwnW.lt {w : World} {base g N : Nat} {D : List Nat} (h : OwnW w base g N D) : base ≤ g ∧ g < w.heap.size := World.ownsRow.lt h g rfl
theorem OwnW.max {w : World} {base g N : Nat} {D : List Nat} (h : OwnW w base g N D) : N ≤ maxLen := by
  obtain ⟨_, ⟨h2, _⟩ | ⟨g', cap, cur, h2, _, _, h5, h6, _⟩⟩ := h
  · cases h2
  · omega
/-- What turns no block of words leaves them owned. -/
theorem OwnW.kept {w w' : World} {base g N : Nat} {D : List Nat} (h : OwnW w base g N D) (hb : w'.heap[g]? = w.heap[g]?) : OwnW w' base g N D := by
  obtain ⟨h1, ⟨h2, h3⟩ | ⟨g', cap, cur, h2, h3, h4, h5⟩⟩ := h
  · cases h2
  · injection h2 with e1 e2 e3
    injection e1 with e1
    injection e1 with e1
    subst e1
    exact ⟨h1, .inr ⟨_, cap, cur, by rw [e3], h3, by rw [hb]; exact h4, h5⟩⟩
theorem OwnW.next {w w' : World} {base g N : Nat} {D : List Nat} (h : OwnW w base g N D) (hb : Below w.heap.size w w') : OwnW w' base g N D := h.kept (hb.block g h.lt.2)
theorem OwnW.words {w : World} {base g N : Nat} {D : List Nat} {p : Nat → Bool} (h : OwnW w base g N D) (hD : ∀ k, k < N → D.getD k 0 = wd p k) : WordsAt w (some ⟨g, 0, none⟩) N N p :=
  .inr ⟨g, rfl, h.lt.2, Nat.le_refl _, h.max, fun k hk => by rw [h.get hk, hD k hk]⟩

theorem empty_any (n : Nat) (hn : n ≤ 4096) (w : World) :
    Calls Tryd.prog 36 #[.int .i64 n] w fun e w' => e = .returned (.agg #[.int .i64 n, .slice (some ⟨w.heap.size + 1, 0, none⟩) (nw n) (nw n)]) ∧ OwnW w' (w.heap.size + 1) (w.heap.size + 1) (nw n) (List.replicate (nw n) 0) ∧ Below w.heap.size w w' := by
  have hN : nw n ≤ 64 := nw_le hn
  have hN2 : ((n : Int) + 64 - 1) / 64 = (nw n : Int) := by unfold nw; omega
  generalize nw n = N at *
  have hmk := run_make_row' (P := Tryd.prog) 23 52 (.int .u64 0) 8 Tryd.underlying23 infoU rfl .i64 .i64 N (by omega) (by omega)
  go_enter Tryd.func36, Tryd.ntmps36
  go_wp2
  have hO : ∀ o : Obj, OwnW ((w.alloc o).alloc (.cells (madeCells #[.int .u64 0] N) 52)) (w.heap.size + 1) (w.heap.size + 1) N (List.replicate N 0) := by
    intro o
    have := World.ownsRow_lit (base := w.heap.size + 1) (e := 52) (size := 1) (w.alloc o) (madeCells #[.int .u64 0] N) N (by simp) (by unfold maxLen; omega) (by simp [madeCells])
    rw [World.size_alloc, toList_madeCells_one] at this
    unfold OwnW
    rw [List.map_replicate]
    exact this
  exact bodyPost_ret (v := .agg #[.int .i64 n, .slice (some ⟨w.heap.size + 1, 0, none⟩) N N]) (by simp [results, Tryd.results36, go_sem]) rfl
    ⟨rfl, hO _, ((Below.refl _ _).alloc (Nat.le_refl _) _).alloc (by simp) _⟩

/-- The words with what the last one has from the size on taken off. -/
def cutL (n : Nat) (D : List Nat) : List Nat := if n % 64 = 0 then D else D.set (nw n - 1) (D.getD (nw n - 1) 0 &&& (2 ^ (n % 64) - 1))
theorem cut_is {n : Nat} {D : List Nat} {q : Nat → Bool} (hl : D.length = nw n) (hD : ∀ k, k < nw n → D.getD k 0 = wd q k) : ∀ k, k < nw n → (cutL n D).getD k 0 = wd (fun i => decide (i < n) && q i) k := by
  intro k hk
  have key : ∀ k, (64 * k + 63 < n ∨ k < nw n ∧ n % 64 = 0) → wd q k = wd (fun i => decide (i < n) && q i) k := by
    intro k hk
    refine wd_congr fun j hj => ?_
    have : 64 * k + j < n := by unfold nw at hk; omega
    simp [this]
  unfold cutL
  by_cases hr : n % 64 = 0
  · rw [if_pos hr, hD k hk]
    exact key k (.inr ⟨hk, hr⟩)
  · rw [if_neg hr]
    by_cases he : k = nw n - 1
    · subst he
      rw [List.getD_eq_getElem?_getD, List.getElem?_set_self (by omega), Option.getD_some, hD _ hk]
      refine wd_eq (Nat.lt_of_le_of_lt Nat.and_le_left (wd_lt _ _)) fun j hj => ?_
      rw [Nat.testBit_and, wd_bit, Nat.testBit_two_pow_sub_one]
      have e : decide (j < n % 64) = decide (64 * (nw n - 1) + j < n) := by
        have : 64 * (nw n - 1) + n % 64 = n := by unfold nw; omega
        congr 1
        simp only [eq_iff_iff]; omega
      rw [e]
      simp [hj, Bool.and_comm]
    · rw [List.getD_eq_getElem?_getD, List.getElem?_set_ne (by omega), ← List.getD_eq_getElem?_getD, hD k hk]
      exact key k (.inl (by unfold nw at *; omega))
theorem cut_len (n : Nat) (D : List Nat) : (cutL n D).length = D.length := by unfold cutL; split <;> simp

theorem drew_grown {a w : World} {r : Option Nat} (h : a.grownBy w r) : a.grownBy w.drew r := ⟨h.os, h.tape, h.output, h.size, h.block⟩
theorem grown_refl (w : World) (r : Option Nat) : w.grownBy w r := ⟨rfl, rfl, rfl, Nat.le_refl _, fun _ _ _ => rfl⟩
theorem grown_trans {a b c : World} {r : Option Nat} (h : a.grownBy b r) (k : b.grownBy c r) : a.grownBy c r :=
  ⟨k.os.trans h.os, k.tape.trans h.tape, k.output.trans h.output, Nat.le_trans h.size k.size, fun i hi hr => (k.block i (Nat.lt_of_lt_of_le hi h.size) hr).trans (h.block i hi hr)⟩
theorem grown_below {a b : World} {r : Option Nat} (h : Below a.heap.size a b) : a.grownBy b r := ⟨h.os, h.tape, h.output, h.size, fun k hk _ => h.block k hk⟩
theorem grown_set {w : World} {g j : Nat} (u : Value) : w.grownBy (w.setCell ⟨g, j, none⟩ u) (some g) :=
  ⟨rfl, rfl, rfl, by simp [World.setCell], fun k _ hk => Below.heap_setCell _ _ _ _ (fun e => hk (by rw [e]))⟩

set_option maxHeartbeats 1000000 in
theorem cut_any (n base g : Nat) (D : List Nat) (hn : n ≤ 4096) (hD : ∀ k, k < nw n → D.getD k 0 < 18446744073709551616) (w : World) (hO : OwnW w base g (nw n) D) :
    Calls Tryd.prog 37 #[.agg #[.int .i64 n, .slice (some ⟨g, 0, none⟩) (nw n) (nw n)]] w fun e w' => e = .returned (.tuple #[]) ∧ OwnW w' base g (nw n) (cutL n D) ∧ w.grownBy w' (some g) := by
  by_cases hr : n % 64 = 0
  · have e1 : (n : Int) % 64 = 0 := by omega
    unfold cutL
    rw [if_pos hr]
    have HO := Lib.hid hO
    clear hO hr
    go_enter Tryd.func37, Tryd.ntmps37
    go_wp2
    exact bodyPost_end (v := .tuple #[]) (by simp [results, Tryd.results37]) rfl ⟨rfl, HO.out.next ((Below.refl _ _).alloc (Nat.le_refl _) _), grown_below ((Below.refl _ _).alloc (Nat.le_refl _) _)⟩
  · have h1 : nw n - 1 < nw n := by unfold nw; omega
    have h2 := hD _ h1
    have hlt := hO.lt.2
    have b1 : Below w.heap.size w (w.alloc (.cells #[.int .i64 n, .slice (some ⟨g, 0, none⟩) (nw n) (nw n)] 25)) := (Below.refl _ _).alloc (Nat.le_refl _) _
    have H0 := Lib.hid hO
    have hc := (hO.next b1).get h1
    have hf := World.frozenAt' (hO.next b1) (nw n - 1)
    have hp : (2 : Nat) ^ (n % 64) < 2 ^ 64 := Nat.pow_lt_pow_right (by omega) (by omega)
    have ha := bits_and_u64_nat (D.getD (nw n - 1) 0) (2 ^ (n % 64) - 1) h2 (by omega)
    have BL : ∀ w, Calls Tryd.prog 53 #[.int .i64 ((n : Int) % 64)] w fun e w' => e = .returned (.int .u64 ((2 ^ (n % 64) - 1 : Nat) : Int)) ∧ w' = w := by
      intro w
      have := below_any (n % 64) (by omega) w
      rwa [show ((n % 64 : Nat) : Int) = (n : Int) % 64 by omega] at this
    unfold cutL
    rw [if_neg hr]
    have hN := nw_le hn
    obtain ⟨N, hNe⟩ : ∃ N, nw n = N + 1 := ⟨nw n - 1, by omega⟩
    rw [hNe] at h1 H0 hc hf ha hN ⊢
    simp only [Nat.add_sub_cancel] at h1 hc hf ha ⊢
    generalize D.getD N 0 = d at *
    generalize 2 ^ (n % 64) - 1 = m at *
    generalize d &&& m = v at *
    have hr' : ¬ ((n : Int) % 64 = 0) := by omega
    have k1 : IntKind.i64.wrap (N : Int) = (N : Int) := by rw [IntKind.wrap_i64]; omega
    clear hD hO hr hNe h2 hp hn b1
    go_enter Tryd.func37, Tryd.ntmps37
    go_wp2
    go_region_with (first
        | (go_at_call 53; (with_reducible refine (BL _).mono ?_); rintro e w1 ⟨rfl, rfl⟩))
    all_goals
      go_wp2
      exact bodyPost_end (v := .tuple #[]) (by simp [results, Tryd.results37]) rfl
        ⟨rfl, ((H0.out.put N v rfl).next ((Below.refl _ _).alloc (Nat.le_refl _) _)).kept rfl, drew_grown (grown_trans (grown_set _) (grown_below ((Below.refl _ _).alloc (Nat.le_refl _) _)))⟩

/-- New. -/
theorem new_bad (a : Int) (h : ¬ (0 ≤ a ∧ a ≤ 4096)) (w : World) :
    Calls Tryd.prog 8 #[.int .i64 a] w fun e w' => e = .returned (.tuple #[.agg #[.int .i64 0, .slice none 0 0], .int .i64 2]) ∧ Below w.heap.size w w' := by
  have F := fits_any a
  rw [decide_eq_false h] at F
  clear h
  go_enter Tryd.func8, Tryd.ntmps8
  go_wp2_with fail
  with_reducible refine (F _).mono ?_
  rintro e w1 ⟨rfl, rfl⟩
  go_wp2
  exact bodyPost_ret (v := .tuple #[.agg #[.int .i64 0, .slice none 0 0], .int .i64 2]) (by simp [results, Tryd.results8, go_sem]) rfl ⟨rfl, (Below.refl _ _).alloc (Nat.le_refl _) _⟩
theorem new_good (n : Nat) (h : n ≤ 4096) (w : World) :
    Calls Tryd.prog 8 #[.int .i64 n] w fun e w' => (∃ x cap, e = .returned (.tuple #[.agg #[.int .i64 n, .slice x (nw n) cap], .int .i64 0]) ∧ SetAt w' n (fun _ => false) x cap) ∧ Below w.heap.size w w' := by
  have F := fits_any (n : Int)
  rw [decide_eq_true (by omega)] at F
  have E := empty_any n h
  go_enter Tryd.func8, Tryd.ntmps8
  go_wp2_with fail
  with_reducible refine (F _).mono ?_
  rintro e w1 ⟨rfl, rfl⟩
  go_wp2_with fail
  with_reducible refine (E _).mono ?_
  rintro e w1 ⟨rfl, O, b1⟩
  rw [World.size_alloc] at O
  have hO := Lib.hid O
  have B := on ((Below.refl _ _).alloc (Nat.le_refl _) _) b1
  have c0 : w1.cell? ⟨w.heap.size, 0, none⟩ = some (.int .i64 0) := by rw [b1.cell (by simp)]; simp [go_sem]
  have c1 : w1.cell? ⟨w.heap.size, 1, none⟩ = some (.slice none 0 0) := by rw [b1.cell (by simp)]; simp [go_sem]
  have f0 : w1.frozen? ⟨w.heap.size, 0, none⟩ = false := by rw [b1.frozen (by simp)]; simp [go_sem]
  have f1 : w1.frozen? ⟨w.heap.size, 1, none⟩ = false := by rw [b1.frozen (by simp)]; simp [go_sem]
  clear O b1 F E
  go_wp2
  refine bodyPost_ret (v := .tuple #[.agg #[.int .i64 n, .slice (some ⟨w.heap.size + 1 + 1, 0, none⟩) (nw n) (nw n)], .int .i64 0]) (by simp [results, Tryd.results8, go_sem, c0, c1]) rfl ⟨⟨_, _, rfl, h, fun _ _ => rfl, ?_⟩, ?_⟩
  · refine (hO.out.kept ?_).words fun k hk => ?_
    · rw [Below.heap_setCell _ _ _ _ (by simp; omega), Below.heap_setCell _ _ _ _ (by simp; omega)]
    · rw [wd_zero (fun _ _ => rfl), List.getD_eq_getElem?_getD, List.getElem?_replicate, if_pos hk]; rfl
  · exact (B.setCell (Nat.le_refl _) _).setCell (Nat.le_refl _) _
end Go.Proofs.YtooehfjappckmaaDoor
