/-
  What each call of the document's own numbers (package secateurref01) does, second part: Cmp, Opposite.
-/
import Derived.Test.YtjaabjehegcnaaaDoorBigWalks
namespace Go.Proofs.YtjaabjehegcnaaaDoor
open Go.RowKit

theorem cmp_pos {a b : Int} (ha : ¬ a < 0) (hb : ¬ b < 0) : cmp3 (a.natAbs : Int) (b.natAbs : Int) = cmp3 a b := by
  rw [show (a.natAbs : Int) = a by omega, show (b.natAbs : Int) = b by omega]
theorem cmp_neg {a b : Int} (ha : a < 0) (hb : b < 0) : - cmp3 (a.natAbs : Int) (b.natAbs : Int) = cmp3 a b := by
  rw [show (a.natAbs : Int) = -a by omega, show (b.natAbs : Int) = -b by omega]
  unfold cmp3; (repeat' split) <;> omega

set_option maxHeartbeats 1000000 in
theorem cmp_any (a b : Int) (x y : Option Addr) (c1 c2 : Nat) (w : World) (h1 : Digs w x c1 (dig a.natAbs)) (h2 : Digs w y c2 (dig b.natAbs)) :
    Calls Tryd.prog 63 #[.agg #[.bool (decide (a < 0)), .slice x (dig a.natAbs).length c1], .agg #[.bool (decide (b < 0)), .slice y (dig b.natAbs).length c2]] w fun e w' => e = .returned (.int .i64 (cmp3 a b)) ∧ Below w.heap.size w w' := by
  obtain ⟨l1, hl1⟩ : ∃ l, (dig a.natAbs).length = l := ⟨_, rfl⟩
  obtain ⟨l2, hl2⟩ : ∃ l, (dig b.natAbs).length = l := ⟨_, rfl⟩
  have F := far_any (decide (a < 0)) (decide (b < 0)) x y c1 c2 a.natAbs b.natAbs
  rw [hl1, hl2] at F
  rw [hl1, hl2]
  have bel2 : ∀ o1 o2 : Obj, Below w.heap.size w ((w.alloc o1).alloc o2) := fun o1 o2 => ((Below.refl _ _).alloc (Nat.le_refl _) _).alloc (by simp) _
  by_cases ha : a < 0 <;> by_cases hb : b < 0
  ·
    have e1 : decide (a < 0) = true := by simp [ha]
    have e2 : decide (b < 0) = true := by simp [hb]
    have hr := cmp_neg ha hb
    have bd := cmp3_bd (a.natAbs : Int) (b.natAbs : Int)
    rw [e1, e2] at F
    rw [e1, e2]
    have K := Lib.hid F
    have HB := Lib.hid bel2
    have HR := Lib.hid hr
    obtain ⟨f, hf⟩ : ∃ f, cmp3 (a.natAbs : Int) (b.natAbs : Int) = f := ⟨_, rfl⟩
    rw [hf] at bd
    obtain ⟨bd1, bd2⟩ := bd
    have HF := Lib.hid hf
    have hw : IntKind.i64.wrap (-f) = -f := IntWalk.i64_in _ (by omega)
    clear F bel2 hr hf e1 e2 ha hb hl1 hl2
    go_enter Tryd.func63, Tryd.ntmps63
    go_wp2_with fail
    refine (K.out _ (h1.below (HB.out _ _)) (h2.below (HB.out _ _))).mono ?_
    rintro e w1 ⟨rfl, b1⟩
    have c1' : w1.cell? ⟨w.heap.size, 0, none⟩ = some (.bool true) := by rw [b1.cell (by simp; omega)]; simp [go_sem]
    rw [HF.out]
    go_wp2
    go_ret
    exact ⟨ret_int (by rw [← HR.out, HF.out]), on (HB.out _ _) b1⟩
  ·
    have e1 : decide (a < 0) = true := by simp [ha]
    have e2 : decide (b < 0) = false := by simp [hb]
    have hr : cmp3 a b = -1 := by unfold cmp3; rw [if_pos (by omega)]
    rw [e1, e2, hr]
    have HB := Lib.hid bel2
    clear F bel2 hr e1 e2 ha hb hl1 hl2
    go_enter Tryd.func63, Tryd.ntmps63
    go_wp2
    go_ret
    exact ⟨rfl, HB.out _ _⟩
  ·
    have e1 : decide (a < 0) = false := by simp [ha]
    have e2 : decide (b < 0) = true := by simp [hb]
    have hr : cmp3 a b = 1 := by unfold cmp3; rw [if_neg (by omega), if_pos (by omega)]
    rw [e1, e2, hr]
    have HB := Lib.hid bel2
    clear F bel2 hr e1 e2 ha hb hl1 hl2
    go_enter Tryd.func63, Tryd.ntmps63
    go_wp2
    go_ret
    exact ⟨rfl, HB.out _ _⟩
  ·
    have e1 : decide (a < 0) = false := by simp [ha]
    have e2 : decide (b < 0) = false := by simp [hb]
    have hr := cmp_pos ha hb
    have bd := cmp3_bd (a.natAbs : Int) (b.natAbs : Int)
    rw [e1, e2] at F
    rw [e1, e2]
    have K := Lib.hid F
    have HB := Lib.hid bel2
    have HR := Lib.hid hr
    obtain ⟨f, hf⟩ : ∃ f, cmp3 (a.natAbs : Int) (b.natAbs : Int) = f := ⟨_, rfl⟩
    rw [hf] at bd
    obtain ⟨bd1, bd2⟩ := bd
    have HF := Lib.hid hf
    have hw : IntKind.i64.wrap (-f) = -f := IntWalk.i64_in _ (by omega)
    clear F bel2 hr hf e1 e2 ha hb hl1 hl2
    go_enter Tryd.func63, Tryd.ntmps63
    go_wp2_with fail
    refine (K.out _ (h1.below (HB.out _ _)) (h2.below (HB.out _ _))).mono ?_
    rintro e w1 ⟨rfl, b1⟩
    have c1' : w1.cell? ⟨w.heap.size, 0, none⟩ = some (.bool false) := by rw [b1.cell (by simp; omega)]; simp [go_sem]
    rw [HF.out]
    go_wp2
    go_ret
    exact ⟨ret_int (by rw [← HR.out, HF.out]), on (HB.out _ _) b1⟩

/-- The same, of values that are told to be numbers. -/
theorem cmp_rep (a b : Int) (u v : Value) (w : World) (h1 : Rep w u a) (h2 : Rep w v b) :
    Calls Tryd.prog 63 #[u, v] w fun e w' => e = .returned (.int .i64 (cmp3 a b)) ∧ Below w.heap.size w w' := by
  obtain ⟨x, c1, rfl, h1⟩ := h1
  obtain ⟨y, c2, rfl, h2⟩ := h2
  exact cmp_any a b x y c1 c2 w h1 h2
end Go.Proofs.YtjaabjehegcnaaaDoor
