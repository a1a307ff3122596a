/-
  What List does.
-/
import Derived.Test.YtooehfjappckmaaDoorRowKit3
namespace Go.Proofs.YtooehfjappckmaaDoor
set_option maxRecDepth 100000
open Go.RowKit

theorem nx_cases (n : Nat) (p : Nat → Bool) (i : Nat) : (nx n p i = -1 ∧ ∀ j, i ≤ j → j < n → p j = false) ∨ ∃ t, i ≤ t ∧ t < n ∧ nx n p i = (t : Int) ∧ p t = true ∧ ∀ j, i ≤ j → j < t → p j = false := by
  unfold nx
  rcases nxt_cases p (n - i) i with ⟨h1, h2⟩ | ⟨d, h1, h2, h3, h4⟩
  · exact .inl ⟨h1, fun j h3 h4 => h2 j h3 (by omega)⟩
  · exact .inr ⟨i + d, by omega, by omega, h2, h3, h4⟩
/-- What a round of List has left. -/
def left (n : Nat) (i : Value) : Nat := if intOf i < 0 then 0 else n + 1 - (intOf i).toNat

theorem left_neg {n : Nat} {z : Int} (h : z < 0) : left n (.int .i64 z) = 0 := by unfold left; exact if_pos h
theorem left_pos {n : Nat} {z : Int} (h : ¬ z < 0) : left n (.int .i64 z) = n + 1 - z.toNat := by unfold left; exact if_neg h

set_option maxHeartbeats 2000000 in
theorem list_any (n : Nat) (x : Option Addr) (cap : Nat) (p : Nat → Bool) (w : World) (h : SetAt w n p x cap) (hL : LibOk w) :
    Calls Tryd.prog 16 #[.agg #[.int .i64 n, .slice x (nw n) cap]] w fun e w' => (∃ y c, e = .returned (.slice y (lst p n).length c) ∧ NumsAt w' y c (lst p n)) ∧ Below w.heap.size w w' := by
  obtain ⟨i0, hi, hz0, hz1, hz2⟩ := info_parts infoI
  have hle := h.le
  have hcn := cnt_le p n
  have CO := count_any (.int .i64 n) n x cap p (w.alloc (.cells #[.int .i64 n, .slice x (nw n) cap] 25)) (h.below (one_below _ _))
  have NX := fun i W hS hLW => next_any n x cap p i W hS hLW
  have HX := Lib.hid (sbox_new w (.int .i64 n) (.slice x (nw n) cap) 25)
  have H := Lib.hid h
  have HL := Lib.hid hL
  have hmk : ∀ W, (Instr.makeSlice 22 (.int .i64 0) (.int .i64 ((cnt p n : Nat) : Int))).run Tryd.prog W = .ok (.slice (some ⟨W.heap.size, 0, none⟩) 0 (cnt p n)) (W.alloc (.cells (madeCells #[.int .i64 0] (cnt p n)) 3)) := by
    intro W
    have := run_make (P := Tryd.prog) W 22 3 i0 (.int .i64 0) Tryd.underlying22 hi hz0 .i64 .i64 0 (cnt p n : Int) (by omega) (by omega) (by rw [hz2]; omega) (by omega)
    rw [hz1] at this
    simpa [Value.cells] using this
  generalize hc : cnt p n = C at *
  clear h hL hc
  go_enter Tryd.func16, Tryd.ntmps16
  go_wp2_with fail
  with_reducible refine CO.mono ?_
  rintro e w1 ⟨rfl, b1⟩
  have X1 := HX.out.next b1
  have hs1 := X1.size
  obtain ⟨x0, x1, x2, x3, x4⟩ := X1
  have ba := b1.trans ((one_below w1 (.cells (madeCells #[.int .i64 0] C) 3)).mono b1.size)
  have B1 := on (one_below w _) ba
  have hO : (w1.alloc (.cells (madeCells #[.int .i64 0] C) 3)).ownsRow (w.heap.size + 1) 3 1 (.slice (some ⟨w1.heap.size, 0, none⟩) 0 C) 0 [] := World.ownsRow_made w1 _ C (by omega) (by unfold maxLen; omega) (by simp [madeCells])
  have N0 := NX 0 _ (H.out.below B1) (HL.out.below B1)
  have HB1 : Hid (Below (w.heap.size + 1) (w.alloc (.cells #[.int .i64 n, .slice x (nw n) cap] 25)) (w1.alloc (.cells (madeCells #[.int .i64 0] C) 3))) := by
    have := ba; rw [World.size_alloc] at this; exact this
  have HO := Lib.hid hO
  clear b1 CO ba B1 hO
  go_wp2_with fail
  with_reducible refine N0.mono ?_
  rintro e w2 ⟨rfl, b2⟩
  have hO2 := HO.out.kept (row := none) ⟨b2.os, b2.tape, b2.output, b2.size, fun k hk _ => b2.block k hk⟩ (.inr (by simp [Value.ownBlock]))
  have HO2 := Lib.hid hO2
  have hB2 : Hid (Below (w.heap.size + 1) (w.alloc (.cells #[.int .i64 n, .slice x (nw n) cap] 25)) w2) := HB1.out.trans (b2.mono (by simp; omega))
  clear hO2 b2 HO N0 HB1 x0 x1 x2 x3 x4 hs1
  go_wp2
  go_loopw [3, 4] (fun d i wr => ∃ t : Nat, t ≤ n ∧ i = .int .i64 (nx n p t) ∧ wr.ownsRow (w.heap.size + 1) 3 1 d (lst p t).length (nl (lst p t)) ∧ Below (w.heap.size + 1) (w.alloc (.cells #[.int .i64 n, .slice x (nw n) cap] 25)) wr) (fun _ i _ => left n i)
  case atStart => exact ⟨0, by omega, rfl, HO2.out, hB2.out⟩
  case round =>
    obtain ⟨t, ht, rfl, hown, hbel⟩ := hrel
    have hsz := hbel.size
    simp only [World.size_alloc] at hsz
    rcases nx_cases n p t with ⟨e1, e2⟩ | ⟨u, e1, e2, e3, e4, e5⟩
    · rw [e1]
      have hf := lst_skip (a := t) (b := n) ht e2
      rw [← hf] at hown
      obtain ⟨y, c, rfl, hN⟩ := nums_of_owns hown
      have HN := Lib.hid hN
      have HB := Lib.hid ((one_below w _).trans (hbel.mono (by omega)))
      clear hown hbel hN hf e1 e2 HO2 hB2
      go_wp2
      go_ret
      exact ⟨⟨y, c, rfl, HN.out⟩, HB.out⟩
    · rw [e3]
      have hf : lst p (u + 1) = lst p t ++ [u] := by rw [lst, e4, lst_skip (a := t) (b := u) e1 e5]; rfl
      have hll := lst_len p t
      have hct := cnt_le p t
      have HF := Lib.hid hf
      have hul : (lst p t).length ≤ 4096 := by omega
      clear hf e3 e4 e5 HO2 hB2 hll hct
      go_wp2_with (at_builtin; refine wpList_append_own _ rfl _ _ 22 rfl (w.heap.size + 1) 3 i0 (.int .i64 0) 1 8 Tryd.underlying22 hi hz0 hz1 hz2 rfl (by decide) _ _ _ rfl (hown.alloc _) ⟨wr.heap.size, 0, none⟩ 1 1 [.int .i64 (u : Int)] rfl rfl ?c1 ?c2 ?c3 ?c4 ?c5 ?_)
      case c1 =>
        intro j v hj
        match j, hj with
        | 0, hj => simp at hj; subst hj; simp [Addr.add]
      case c2 => intro v hv; simp at hv; subst hv; rfl
      case c3 => unfold maxLen; omega
      case c4 => omega
      case c5 => simp; omega
      · intro v' w3 hown' hgrow _
        have B3 := grow_step hown hgrow hbel (by omega)
        have hO3 : w3.ownsRow (w.heap.size + 1) 3 1 v' (lst p (u + 1)).length (nl (lst p (u + 1))) := by
          rw [HF.out]; simpa [nl] using hown'
        have X3 := HX.out.low B3 (by omega)
        have B3w := (one_below w _).trans (B3.mono (show w.heap.size ≤ _ by omega))
        have N3 := NX ((u : Int) + 1) w3 (H.out.below B3w) (HL.out.below B3w)
        have HO3 := Lib.hid hO3
        have HB3 := Lib.hid B3
        obtain ⟨x0, x1, x2, x3, x4⟩ := X3
        clear hown hown' hgrow hbel B3 hO3 B3w
        go_wp2_with fail
        with_reducible refine N3.mono ?_
        rintro e w4 ⟨rfl, b4⟩
        have hO4 := HO3.out.kept (row := none) ⟨b4.os, b4.tape, b4.output, b4.size, fun k hk _ => b4.block k hk⟩ (by
          cases hv : v'.ownBlock with
          | none => exact .inl rfl
          | some k => exact .inr (by simp))
        have HO4 := Lib.hid hO4
        have HB4 := Lib.hid (HB3.out.trans (b4.mono (by omega)))
        clear hO4 b4 N3 HO3 HB3 x0 x1 x2 x3 x4
        go_wp2
        go_roundw
        case rel => exact ⟨u + 1, by omega, congrArg (Value.int .i64) (by unfold nxI; congr 1), HO4.out, HB4.out⟩
        case measure =>
          show left n _ < left n _
          unfold nxI
          rcases nx_cases n p ((u : Int) + 1).toNat with ⟨e1, _⟩ | ⟨t', e1, e2, e3, _⟩
          · rw [e1, left_neg (by omega), left_pos (by omega)]; omega
          · rw [e3, left_pos (by omega), left_pos (by omega)]; omega
end Go.Proofs.YtooehfjappckmaaDoor
