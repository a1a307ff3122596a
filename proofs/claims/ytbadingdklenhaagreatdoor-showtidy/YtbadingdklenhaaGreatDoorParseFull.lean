/-
  What parse.Parse does with every text.
-/
import Derived.Test.YtbadingdklenhaaGreatDoorParseRead
import Derived.BigRegion
namespace Go.Proofs.YtbadingdklenhaaGreatDoor
set_option maxRecDepth 100000
open Go.RowKit

theorem lx_cnt : ∀ (n : Nat) (l : List UInt8), l.length ≤ n → ∀ line col rm, (lx l line col rm).toks.length ≤ l.length + 1 := by
  intro n
  induction n with
  | zero =>
    intro l hl line col rm
    obtain rfl : l = [] := List.eq_nil_of_length_eq_zero (by omega)
    exact Nat.le_refl _
  | succ n ih =>
    intro l hl line col rm
    cases l with
    | nil => exact Nat.le_refl _
    | cons a r =>
      simp only [List.length_cons] at hl ⊢
      rw [lx_cons]
      by_cases h0 : pt (a :: r) = 0
      · rw [if_pos h0]; exact Nat.zero_le _
      rw [if_neg h0]
      by_cases h10 : a = 10
      · rw [if_pos h10]
        have := ih r (by omega) (line + 1) 1 false
        omega
      rw [if_neg h10]
      by_cases hb : (rm || isB a) = true
      · rw [if_pos hb]
        have := ih (r.drop (pt (a :: r) - 1)) (by rw [List.length_drop]; omega) line (col + 1) (rm || a == 35)
        rw [List.length_drop] at this
        omega
      rw [if_neg hb]
      by_cases ht : (tk (a :: r)).1 = 0
      · rw [if_neg (show ¬ ((tk (a :: r)).1 ≠ 0) by omega)]
        have := ih (r.drop ((tk (a :: r)).2.2.1 - 1)) (by rw [List.length_drop]; omega) line (col + (tk (a :: r)).2.2.1) false
        rw [List.length_drop] at this
        unfold Rs.pre
        split
        · simp only [List.length_append, List.length_singleton]; omega
        · omega
      · rw [if_pos ht]; exact Nat.zero_le _
theorem lexP_cnt (l : List UInt8) : (lexP l).toks.length ≤ 2000000 := by
  unfold lexP
  split
  · exact Nat.zero_le _
  · have := lx_cnt l.length l (Nat.le_refl _) 1 1 false
    omega
theorem end8 {M : Nat} {v : Value} {I : In} {w w5 : World} {v0 v1 v2 v3 v4 v5 u0 u1 : Value} (hI : Ins (fun q => M ≤ q) (fun q => M ≤ q) w5 v I) (hB : Below w.heap.size w w5) (hM : w.heap.size + 1 < M) :
    Ins (fun q => w.heap.size ≤ q) (fun q => w.heap.size ≤ q) (((set6 w.heap.size v0 v1 v2 v3 v4 v5 w5).setCell ⟨w.heap.size + 1, 0, none⟩ u0).setCell ⟨w.heap.size + 1, 1, none⟩ u1) v I ∧ Below w.heap.size w (((set6 w.heap.size v0 v1 v2 v3 v4 v5 w5).setCell ⟨w.heap.size + 1, 0, none⟩ u0).setCell ⟨w.heap.size + 1, 1, none⟩ u1) := by
  have a1 := hI.held (held_set6 (b := w.heap.size) (v0 := v0) (v1 := v1) (v2 := v2) (v3 := v3) (v4 := v4) (v5 := v5) fun q hq => by omega) (held_set6 (b := w.heap.size) (v0 := v0) (v1 := v1) (v2 := v2) (v3 := v3) (v4 := v4) (v5 := v5) fun q hq => by omega)
  have a2 := a1.held (set_held (a := ⟨w.heap.size + 1, 0, none⟩) (v := u0) fun q hq => by show q ≠ w.heap.size + 1; omega) (set_held (a := ⟨w.heap.size + 1, 0, none⟩) (v := u0) fun q hq => by show q ≠ w.heap.size + 1; omega)
  have a3 := a2.held (set_held (a := ⟨w.heap.size + 1, 1, none⟩) (v := u1) fun q hq => by show q ≠ w.heap.size + 1; omega) (set_held (a := ⟨w.heap.size + 1, 1, none⟩) (v := u1) fun q hq => by show q ≠ w.heap.size + 1; omega)
  refine ⟨a3.imp (fun q hq => by omega) (fun q hq => by omega), ?_⟩
  exact Below.setCell (Below.setCell (hB.trans below_set6) (p := ⟨w.heap.size + 1, 0, none⟩) (show w.heap.size ≤ w.heap.size + 1 by omega) _) (p := ⟨w.heap.size + 1, 1, none⟩) (show w.heap.size ≤ w.heap.size + 1 by omega) _
set_option maxHeartbeats 1000000 in
theorem parse_ok (s : ByteArray) (he : (lexP s.data.toList).err = 0) (w : World) (hL : LibOk w) (hW : WordsOk w) : Calls Tryz.prog 14 #[.string s] w (IsPs (parseL s.data.toList) w) := by
  have LX := fun W hW => lex_any s W hW
  have hcnt := lexP_cnt s.data.toList
  obtain ⟨W2, hW2⟩ : ∃ q, q = (w.alloc (.cells #[.int .i64 0, .int .i64 0, .slice none 0 0, .slice none 0 0, .int .i64 0, .slice none 0 0] 33)).alloc (.cells #[.int .i64 0, .int .i64 0] 52) := ⟨_, rfl⟩
  have hsz : W2.heap.size = w.heap.size + 2 := by rw [hW2]; simp
  have hb2 : Below w.heap.size w W2 := by
    rw [hW2]
    exact (new_below w _).alloc (by simp) _
  have hI2 : IBlk w.heap.size 33 (.int .i64 0) (.int .i64 0) (.slice none 0 0) (.slice none 0 0) (.int .i64 0) (.slice none 0 0) W2 := by
    rw [hW2]
    exact (iblk_new w _ _ _ _ _ _ _).next (new_below _ _)
  have hP2 : W2.heap[w.heap.size + 1]? = some (.cells #[.int .i64 0, .int .i64 0] 52 (0, 0)) := by
    rw [hW2]
    have := heap_alloc_new (w.alloc (.cells #[.int .i64 0, .int .i64 0, .slice none 0 0, .slice none 0 0, .int .i64 0, .slice none 0 0] 33)) (.cells #[.int .i64 0, .int .i64 0] 52)
    rw [World.size_alloc] at this
    exact this
  have L2 := hL.below hb2
  have HW2 := Lib.hid (hW.next hb2)
  have ep : parseL s.data.toList = psOf (lexP s.data.toList).toks (wholeR (lexP s.data.toList).toks) := by unfold parseL; exact if_pos he
  have hE := endL_of he
  rw [ep]
  generalize hR : lexP s.data.toList = RS at *
  obtain ⟨L, pl1, pc1, er⟩ := RS
  simp only at *
  subst he
  obtain ⟨PS, hPS⟩ : ∃ q, psOf L (wholeR L) = q := ⟨_, rfl⟩
  have RD := fun g C W => readP_any g C L hE hcnt (w := W)
  rw [hPS] at RD ⊢
  obtain ⟨I, l1, c1, e1⟩ := PS
  clear hR ep hPS
  go_enter Tryz.func14, Tryz.ntmps14
  go_wp2_with fail
  rw [← hW2]
  with_reducible refine (LX _ L2).mono ?_
  rintro e w3 ⟨v, rfl, own, b3⟩
  have hT := toks_of_own own
  obtain ⟨A, C, rfl, hc1, hc2, hg⟩ := hT
  obtain ⟨g, rfl, hT⟩ := hg hE.pos
  have nb := new_below w3 (.cells #[.int .i64 (pl1 : Nat), .int .i64 (pc1 : Nat)] 52)
  have R1 := RD g C _ hc1 hc2 (hT.next nb) ((HW2.out.next b3).next nb)
  have hb3 := hb2.trans (b3.mono (by omega))
  have hb5 := Lib.hid (hb3.alloc (by have := b3.size; omega) (.cells #[.int .i64 (pl1 : Nat), .int .i64 (pc1 : Nat)] 52))
  have hs3 := b3.size
  have HI5 := Lib.hid ((hI2.next b3).next nb)
  have HP5 := Lib.hid ((nb.block _ (by omega)).trans ((b3.block _ (by omega)).trans hP2))
  clear nb own hT b3 hI2 hP2 hW2 hb2 hb3 L2 HW2 LX RD
  go_wp2_with fail
  with_reducible refine R1.mono ?_
  rintro e w5 ⟨v, rfl, hI, b5⟩
  obtain ⟨A0, n0, C0, A1, n1, C1, A2, n2, C2, rfl⟩ := InV hI
  have hs5 := b5.size
  have hI5 := HI5.out.next b5
  have hP5 : w5.heap[w.heap.size + 1]? = _ := (b5.block (w.heap.size + 1) (by simp; omega)).trans HP5.out
  simp only [World.size_alloc] at hI b5 hs5
  obtain ⟨x0, x1, x2, x3, x4, x5⟩ := hI5.box
  have f := hI5.free
  have f0 := f 0
  have f1 := f 1
  have f2 := f 2
  have f3 := f 3
  have f4 := f 4
  have f5 := f 5
  have y0 : w5.cell? ⟨w.heap.size + 1, 0, none⟩ = some (.int .i64 0) := by unfold World.cell?; simp only [hP5]; rfl
  have y1 : w5.cell? ⟨w.heap.size + 1, 1, none⟩ = some (.int .i64 0) := by unfold World.cell?; simp only [hP5]; rfl
  have g0 : w5.frozen? ⟨w.heap.size + 1, 0, none⟩ = false := frozen_of_row w5 _ _ _ _ hP5
  have g1 : w5.frozen? ⟨w.heap.size + 1, 1, none⟩ = false := frozen_of_row w5 _ _ _ _ hP5
  have hn0 : w.heap.size < w5.heap.size := by omega
  have hn1 : w.heap.size + 1 < w5.heap.size := by omega
  have HB5 := Lib.hid ((hb5.out.trans (b5.mono (by omega))))
  have HI := Lib.hid hI
  have HE8 := Lib.hid (end8 (v0 := .int .i64 I.kind) (v1 := .int .i64 I.cap) (v2 := .slice A0 n0 C0) (v3 := .slice A1 n1 C1) (v4 := .int .i64 I.size) (v5 := .slice A2 n2 C2) (u0 := .int .i64 (l1 : Nat)) (u1 := .int .i64 (c1 : Nat)) hI HB5.out (by omega))
  unfold set6 at HE8
  clear f hI hI5 hP5 b5 R1
  go_wp2
  refine bodyPost_ret (v := .tuple #[.agg #[.int .i64 I.kind, .int .i64 I.cap, .slice A0 n0 C0, .slice A1 n1 C1, .int .i64 I.size, .slice A2 n2 C2], .agg #[.int .i64 (l1 : Nat), .int .i64 (c1 : Nat)], .int .i64 (e1 : Nat)]) (by simp [results, Tryz.results14, go_sem, x0, x1, x2, x3, x4, x5, y0, y1]) rfl ?_
  have h8 := HE8.out
  clear HE8
  revert h8
  generalize ((((((((w5.setCell _ _).setCell _ _).setCell _ _).setCell _ _).setCell _ _).setCell _ _).setCell _ _).setCell _ _) = W8
  intro h8
  exact ⟨_, rfl, h8.1, h8.2⟩
set_option maxHeartbeats 4000000 in
theorem parse_no (s : ByteArray) (he : ¬ (lexP s.data.toList).err = 0) (w : World) (hL : LibOk w) (hW : WordsOk w) : Calls Tryz.prog 14 #[.string s] w (IsPs (parseL s.data.toList) w) := by
  have LX := fun W hW => lex_any s W hW
  obtain ⟨W2, hW2⟩ : ∃ q, q = (w.alloc (.cells #[.int .i64 0, .int .i64 0, .slice none 0 0, .slice none 0 0, .int .i64 0, .slice none 0 0] 33)).alloc (.cells #[.int .i64 0, .int .i64 0] 52) := ⟨_, rfl⟩
  have hsz : W2.heap.size = w.heap.size + 2 := by rw [hW2]; simp
  have hb2 : Below w.heap.size w W2 := by
    rw [hW2]
    exact (new_below w _).alloc (by simp) _
  have hI2 : IBlk w.heap.size 33 (.int .i64 0) (.int .i64 0) (.slice none 0 0) (.slice none 0 0) (.int .i64 0) (.slice none 0 0) W2 := by
    rw [hW2]
    exact (iblk_new w _ _ _ _ _ _ _).next (new_below _ _)
  have hP2 : W2.heap[w.heap.size + 1]? = some (.cells #[.int .i64 0, .int .i64 0] 52 (0, 0)) := by
    rw [hW2]
    have := heap_alloc_new (w.alloc (.cells #[.int .i64 0, .int .i64 0, .slice none 0 0, .slice none 0 0, .int .i64 0, .slice none 0 0] 33)) (.cells #[.int .i64 0, .int .i64 0] 52)
    rw [World.size_alloc] at this
    exact this
  have L2 := hL.below hb2
  have HW2 := Lib.hid (hW.next hb2)
  have ep : parseL s.data.toList = ⟨zIn, (lexP s.data.toList).line, (lexP s.data.toList).col, (lexP s.data.toList).err⟩ := by unfold parseL; exact if_neg he
  rw [ep]
  generalize hR : lexP s.data.toList = RS at *
  obtain ⟨L, pl1, pc1, er⟩ := RS
  simp only at *
  have he2 : ¬ (er : Int) = 0 := by omega
  clear hR ep he
  go_enter Tryz.func14, Tryz.ntmps14
  go_wp2_with fail
  rw [← hW2]
  with_reducible refine (LX _ L2).mono ?_
  rintro e w3 ⟨v, rfl, own, b3⟩
  have hT := toks_of_own own
  obtain ⟨A, C, rfl, hc1, hc2, hg⟩ := hT
  have hs3 := b3.size
  have hI3 := hI2.next b3
  have hP3 := (b3.block _ (by omega)).trans hP2
  obtain ⟨x0, x1, x2, x3, x4, x5⟩ := hI3.box
  have f := hI3.free
  have f0 := f 0
  have f1 := f 1
  have f2 := f 2
  have f3 := f 3
  have f4 := f 4
  have f5 := f 5
  have y0 : w3.cell? ⟨w.heap.size + 1, 0, none⟩ = some (.int .i64 0) := by unfold World.cell?; simp only [hP3]; rfl
  have y1 : w3.cell? ⟨w.heap.size + 1, 1, none⟩ = some (.int .i64 0) := by unfold World.cell?; simp only [hP3]; rfl
  have g0 : w3.frozen? ⟨w.heap.size + 1, 0, none⟩ = false := frozen_of_row w3 _ _ _ _ hP3
  have g1 : w3.frozen? ⟨w.heap.size + 1, 1, none⟩ = false := frozen_of_row w3 _ _ _ _ hP3
  have hn0 : w.heap.size < w3.heap.size := by omega
  have hn1 : w.heap.size + 1 < w3.heap.size := by omega
  have HB3 := Lib.hid (hb2.trans (b3.mono (by omega)))
  have hI := Lib.hid (ins_zero (fun q => w.heap.size + 2 ≤ q) (fun q => w.heap.size + 2 ≤ q) w3)
  have q0 := hI3.set6 (v0 := .int .i64 0) (v1 := .int .i64 0) (v2 := .slice none 0 0) (v3 := .slice none 0 0) (v4 := .int .i64 0) (v5 := .slice none 0 0)
  have q1 := ((held_set6 (b := w.heap.size) (v0 := .int .i64 0) (v1 := .int .i64 0) (v2 := .slice none 0 0) (v3 := .slice none 0 0) (v4 := .int .i64 0) (v5 := .slice none 0 0) (w := w3) (F := fun q => q = w.heap.size + 1) (fun q hq => by omega)).2 _ rfl (by omega)).trans hP3
  have q2 := heap_setCell_same _ (w.heap.size + 1) 1 _ _ (.int .i64 (pc1 : Nat)) (heap_setCell_same _ (w.heap.size + 1) 0 _ _ (.int .i64 (pl1 : Nat)) q1)
  have q3 := (q0.other (a := ⟨w.heap.size + 1, 0, none⟩) (show w.heap.size ≠ w.heap.size + 1 by omega) (.int .i64 (pl1 : Nat))).other (a := ⟨w.heap.size + 1, 1, none⟩) (show w.heap.size ≠ w.heap.size + 1 by omega) (.int .i64 (pc1 : Nat))
  have q4 := end8 (v0 := .int .i64 0) (v1 := .int .i64 0) (v2 := .slice none 0 0) (v3 := .slice none 0 0) (v4 := .int .i64 0) (v5 := .slice none 0 0) (u0 := .int .i64 (pl1 : Nat)) (u1 := .int .i64 (pc1 : Nat)) hI.out HB3.out (by omega)
  have q5 := fun (W : World) (hq : Below (((set6 w.heap.size (.int .i64 0) (.int .i64 0) (.slice none 0 0) (.slice none 0 0) (.int .i64 0) (.slice none 0 0) w3).setCell ⟨w.heap.size + 1, 0, none⟩ (.int .i64 (pl1 : Nat))).setCell ⟨w.heap.size + 1, 1, none⟩ (.int .i64 (pc1 : Nat))).heap.size (((set6 w.heap.size (.int .i64 0) (.int .i64 0) (.slice none 0 0) (.slice none 0 0) (.int .i64 0) (.slice none 0 0) w3).setCell ⟨w.heap.size + 1, 0, none⟩ (.int .i64 (pl1 : Nat))).setCell ⟨w.heap.size + 1, 1, none⟩ (.int .i64 (pc1 : Nat))) W) =>
    (And.intro (q3.next hq) (And.intro ((hq.block _ (lt_of_block q2)).trans q2) (And.intro (q4.1.next hq) (q4.2.trans (hq.mono (Nat.le_of_lt q3.lt))))) :
      IBlk w.heap.size 33 (.int .i64 0) (.int .i64 0) (.slice none 0 0) (.slice none 0 0) (.int .i64 0) (.slice none 0 0) W ∧ W.heap[w.heap.size + 1]? = some (.cells #[.int .i64 (pl1 : Nat), .int .i64 (pc1 : Nat)] 52 (0, 0)) ∧ Ins (fun q => w.heap.size ≤ q) (fun q => w.heap.size ≤ q) W (.agg #[.int .i64 0, .int .i64 0, .slice none 0 0, .slice none 0 0, .int .i64 0, .slice none 0 0]) zIn ∧ Below w.heap.size w W)
  have HQ := Lib.hid (q5 _ ((new_below _ (.cells #[.int .i64 (pl1 : Nat), .int .i64 (pc1 : Nat)] 52)).drew))
  unfold set6 at HQ
  clear f hI2 hP2 hI3 hP3 b3 hb2 own hg hW2 L2 HW2 LX q0 q1 q2 q3 q4 q5 hL hW hsz hs3 hc1 hc2
  go_wp2
  clear he2
  go_region
  obtain ⟨z1, z2, z3, z4⟩ := HQ.out
  clear HQ
  revert z1 z2 z3 z4
  generalize ((((((((((w3.setCell _ _).setCell _ _).setCell _ _).setCell _ _).setCell _ _).setCell _ _).setCell _ _).setCell _ _).alloc _).drew) = W8
  intro z1 z2 z3 z4
  obtain ⟨a0, a1, a2, a3, a4, a5⟩ := z1.box
  have y2 : W8.cell? ⟨w.heap.size + 1, 0, none⟩ = some (.int .i64 (pl1 : Nat)) := by unfold World.cell?; simp only [z2]; rfl
  have y3 : W8.cell? ⟨w.heap.size + 1, 1, none⟩ = some (.int .i64 (pc1 : Nat)) := by unfold World.cell?; simp only [z2]; rfl
  clear z1 z2
  go_wp2
  refine bodyPost_ret (v := .tuple #[.agg #[.int .i64 0, .int .i64 0, .slice none 0 0, .slice none 0 0, .int .i64 0, .slice none 0 0], .agg #[.int .i64 (pl1 : Nat), .int .i64 (pc1 : Nat)], .int .i64 (er : Nat)]) (by simp [results, Tryz.results14, go_sem, a0, a1, a2, a3, a4, a5, y2, y3]) rfl ?_
  exact ⟨_, rfl, z3, z4⟩
theorem parse_any (s : ByteArray) (w : World) (hL : LibOk w) (hW : WordsOk w) : Calls Tryz.prog 14 #[.string s] w (IsPs (parseL s.data.toList) w) := by
  by_cases he : (lexP s.data.toList).err = 0
  · exact parse_ok s he w hL hW
  · exact parse_no s he w hL hW
end Go.Proofs.YtbadingdklenhaaGreatDoor
