/-
  What slices.Equal does of items, of numbers, and the document's ints (layer 9). Written by tools/geninsteq.py.
-/
import Derived.Test.YtbadingdklenhaaDoorInstForm
import Derived.Deep.Draws
import Derived.BigQuiet
namespace Go.Proofs.YtbadingdklenhaaDoor
set_option maxRecDepth 100000
open Go.RowKit

theorem eq_drop {α : Type} [DecidableEq α] {l m : List α} {k : Nat} {x y : α} (hx : l[k]? = some x) (hy : m[k]? = some y) : decide (l.drop k = m.drop k) = (decide (x = y) && decide (l.drop (k + 1) = m.drop (k + 1))) := by
  obtain ⟨h1, e1⟩ := List.getElem?_eq_some_iff.1 hx
  obtain ⟨h2, e2⟩ := List.getElem?_eq_some_iff.1 hy
  rw [List.drop_eq_getElem_cons h1, List.drop_eq_getElem_cons h2, e1, e2, Bool.eq_iff_iff]
  simp
theorem eq_done {α : Type} [DecidableEq α] {l m : List α} (h : l.length = m.length) : decide (l.drop l.length = m.drop l.length) = true := by
  rw [List.drop_eq_nil_of_le (Nat.le_refl _), List.drop_eq_nil_of_le (by omega)]
  rfl
theorem eq_len {α : Type} [DecidableEq α] {l m : List α} (h : ¬ l.length = m.length) : decide (l = m) = false := decide_eq_false (fun e => h (by rw [e]))
/-- Draws alone. -/
def Drawn (w w' : World) : Prop := ∃ n, w' = w.drewN n
theorem Drawn.refl (w : World) : Drawn w w := ⟨0, rfl⟩
theorem Drawn.more {w w' : World} (h : Drawn w w') (n : Nat) : Drawn w (w'.drewN n) := by
  obtain ⟨k, rfl⟩ := h
  exact ⟨k + n, by simp [World.drewN, Nat.add_assoc]⟩
theorem Drawn.below {w w' : World} (h : Drawn w w') {B : Nat} : Below B w w' := by
  obtain ⟨k, rfl⟩ := h
  exact below_drewN (Below.refl _ _) k

set_option maxHeartbeats 2000000 in
theorem rInts_any (F G : Nat → Prop) (l m : List Int) (u v : Value) (w : World) (h1 : Ints F w u l) (h2 : Ints G w v m) :
    Calls Tryd.prog 31 #[u, v] w fun e w' => e = .returned (.bool (decide (l = m))) ∧ Drawn w w' := by
  obtain ⟨A, C, rfl, hC, hM⟩ := h1.form
  obtain ⟨A2, C2, rfl, hC2, hM2⟩ := h2.form
  unfold maxLen at hM hM2
  have H1 := Lib.hid h1
  have H2 := Lib.hid h2
  clear h1 h2
  by_cases hl : l.length = m.length
  · have HL := Lib.hid hl
    obtain ⟨T, hT⟩ : ∃ T, decide (l = m) = T := ⟨_, rfl⟩
    rw [hT]
    have HT := Lib.hid hT
    rw [← hl] at hC2 H2 ⊢
    clear hl hT
    go_enter Tryd.func31, Tryd.ntmps31
    go_wp2
    go_loopw [5] (fun i  wr => ∃ (k : Nat), k ≤ l.length ∧ i = .int .i64 (k : Nat) ∧ Hid (Drawn w wr) ∧ Hid (decide (l.drop k = m.drop k) = T)) (fun i  _ => l.length - (intOf i).toNat)
    case atStart => exact ⟨0, by omega, rfl, Drawn.refl _, HT.out⟩
    case round =>
      obtain ⟨k, hk, rfl, hD, hQ⟩ := hrel
      by_cases hlt : k < l.length
      · have hB := hD.out.below (B := w.heap.size)
        obtain ⟨b, off, x, rfl, _, hb, hx, c0⟩ := (H1.out.next hB).get hlt
        obtain ⟨b2, off2, y, rfl, _, hb2, hy, d0⟩ := (H2.out.next hB).get (i := k) (by have := HL.out; omega)
        have hq := hQ.out
        rw [eq_drop hx hy] at hq
        have c01 : (0 : Int) ≤ (k : Int) := by omega
        have c02 : (k : Int) < (l.length : Int) := by omega
        have HD := hD
        clear hQ hx hy hD hB
        by_cases h : x = y
        · subst h
          have HR : Hid (decide (l.drop (k + 1) = m.drop (k + 1)) = T) := by show _ = _; rw [← hq]; simp
          clear hq
          go_wp2
          go_quiet (fail)
          go_wp2
          go_roundw
          case rel => exact ⟨k + 1, by omega, by go_num, HD.out.more _, HR⟩
          case measure => simp [intOf]; omega
        · have hne : (x == y) = false := by simpa using h
          have HR : Hid (T = false) := by show _ = _; rw [← hq]; simp [h]
          clear hq
          go_wp2
          go_quiet (fail)
          go_wp2
          go_ret
          exact ⟨by rw [HR.out]; rfl, HD.out.more _⟩
      · obtain rfl : k = l.length := by omega
        have hq := hQ.out
        rw [eq_done HL.out] at hq
        have HR : Hid (T = true) := hq.symm
        have HD := hD
        clear hq hQ hD
        go_wp2
        go_ret
        exact ⟨by rw [HR.out]; rfl, HD.out⟩
  · rw [eq_len hl]
    have hne : ((l.length : Int) == (m.length : Int)) = false := by rw [beq_eq_false_iff_ne]; omega
    clear hl
    go_enter Tryd.func31, Tryd.ntmps31
    go_wp2
    go_ret
    exact ⟨rfl, Drawn.refl _⟩
end Go.Proofs.YtbadingdklenhaaDoor
