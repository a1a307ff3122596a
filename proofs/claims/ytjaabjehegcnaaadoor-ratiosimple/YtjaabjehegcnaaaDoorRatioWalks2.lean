/-
  What each call of package ratio (layer 2) does, second part: Cmp, Floor, Ceil; what every statement asks first (wakes).
-/
import Derived.Test.YtjaabjehegcnaaaDoorParseWalks
import Derived.Test.YtjaabjehegcnaaaDoorRatioMath2
namespace Go.Proofs.YtjaabjehegcnaaaDoor
set_option maxRecDepth 100000
open Go.RowKit

theorem rfloorP (n d : Int) (hn : I64 n) (hd : I64 d) (w : World) :
    Calls Tryd.prog 20 #[.agg #[.int .i64 n, .int .i64 d]] w fun e w' => e = .returned (.int .i64 (flo n d)) ∧ Below w.heap.size w w' := by
  have G := good_any n d hn hd
  by_cases hg : goodB n d = true
  · rw [hg] at G
    have e1 : flo n d = n.fdiv d := by unfold flo; rw [if_pos hg]
    rw [e1]
    have F := floor_yes n d (div_of_pos (good_out hg).1) hn
    clear e1 hg
    go_enter Tryd.func20, Tryd.ntmps20
    go_wp2_with fail
    with_reducible refine (G _).mono ?_
    rintro e w1 ⟨rfl, b1⟩
    obtain ⟨c0, c1, f0, f1, hz⟩ := (rbox_new w n d _).next b1
    have B1 : Below w.heap.size w w1 := on (new_below w _) b1
    clear b1
    go_wp2_with fail
    with_reducible refine (F _).mono ?_
    rintro e w2 ⟨rfl, rfl⟩
    go_wp2
    go_ret
    exact ⟨rfl, B1⟩
  · have e1 : flo n d = 0 := by unfold flo; rw [if_neg hg]
    have hg' : goodB n d = false := by simpa using hg
    rw [hg'] at G
    rw [e1]
    clear e1 hg hg'
    go_enter Tryd.func20, Tryd.ntmps20
    go_wp2_with fail
    with_reducible refine (G _).mono ?_
    rintro e w1 ⟨rfl, b1⟩
    have B1 : Below w.heap.size w w1 := on (new_below w _) b1
    go_wp2
    go_ret
    exact ⟨rfl, B1⟩

theorem rceilP (n d : Int) (hn : I64 n) (hd : I64 d) (w : World) :
    Calls Tryd.prog 22 #[.agg #[.int .i64 n, .int .i64 d]] w fun e w' => e = .returned (.int .i64 (cei n d)) ∧ Below w.heap.size w w' := by
  have G := good_any n d hn hd
  by_cases hg : goodB n d = true
  · rw [hg] at G
    have e1 : cei n d = cdiv n d := by unfold cei; rw [if_pos hg]
    rw [e1]
    have F := ceil_yes n d (div_of_pos (good_out hg).1) hn
    clear e1 hg
    go_enter Tryd.func22, Tryd.ntmps22
    go_wp2_with fail
    with_reducible refine (G _).mono ?_
    rintro e w1 ⟨rfl, b1⟩
    obtain ⟨c0, c1, f0, f1, hz⟩ := (rbox_new w n d _).next b1
    have B1 : Below w.heap.size w w1 := on (new_below w _) b1
    clear b1
    go_wp2_with fail
    with_reducible refine (F _).mono ?_
    rintro e w2 ⟨rfl, rfl⟩
    go_wp2
    go_ret
    exact ⟨rfl, B1⟩
  · have e1 : cei n d = 0 := by unfold cei; rw [if_neg hg]
    have hg' : goodB n d = false := by simpa using hg
    rw [hg'] at G
    rw [e1]
    clear e1 hg hg'
    go_enter Tryd.func22, Tryd.ntmps22
    go_wp2_with fail
    with_reducible refine (G _).mono ?_
    rintro e w1 ⟨rfl, b1⟩
    have B1 : Below w.heap.size w w1 := on (new_below w _) b1
    go_wp2
    go_ret
    exact ⟨rfl, B1⟩

theorem two_new (w : World) (o1 o2 : Obj) : Below w.heap.size w ((w.alloc o1).alloc o2) := ((Below.refl _ _).alloc (Nat.le_refl _) _).alloc (by simp) _
theorem rbox_new2 (w : World) (o : Obj) (a b : Int) (t : TypeId) : RBox (w.heap.size + 1) a b ((w.alloc o).alloc (.cells #[.int .i64 a, .int .i64 b] t)) :=
  ⟨by simp [go_sem], by simp [go_sem], by simp [go_sem], by simp [go_sem], by simp⟩

set_option maxHeartbeats 1000000 in
theorem rcmpP (a b c d : Int) (ha : I64 a) (hb : I64 b) (hc : I64 c) (hd : I64 d) (w : World) :
    Calls Tryd.prog 18 #[.agg #[.int .i64 a, .int .i64 b], .agg #[.int .i64 c, .int .i64 d]] w fun e w' => e = .returned (.int .i64 (rcm a b c d)) ∧ Below w.heap.size w w' := by
  have G1 := good_any a b ha hb
  have G2 := good_any c d hc hd
  have X := cross_any a b c d ha hb hc hd
  by_cases h1 : goodB a b = true
  · rw [h1] at G1
    by_cases h2 : goodB c d = true
    · rw [h2] at G2
      have e1 : rcm a b c d = cmp3 (a * d) (c * b) := by unfold rcm; rw [if_pos ⟨h1, h2⟩]
      rw [e1]
      clear e1 h1 h2
      go_enter Tryd.func18, Tryd.ntmps18
      go_wp2_with fail
      with_reducible refine (G1 _).mono ?_
      rintro e w1 ⟨rfl, b1⟩
      have RA := ((rbox_new w a b 23).next (new_below _ (.cells #[.int .i64 c, .int .i64 d] 23))).next b1
      have RB := (rbox_new2 w (.cells #[.int .i64 a, .int .i64 b] 23) c d 23).next b1
      have B1 : Below w.heap.size w w1 := on (two_new w _ _) b1
      clear b1
      obtain ⟨c0, c1, f0, f1, hz⟩ := RA
      obtain ⟨d0, d1, g0, g1, hy⟩ := RB
      go_wp2_with fail
      with_reducible refine (G2 _).mono ?_
      rintro e w2 ⟨rfl, b2⟩
      have RA := (RBox.mk c0 c1 f0 f1 hz).next b2
      have RB := (RBox.mk d0 d1 g0 g1 hy).next b2
      have B2 := on B1 b2
      clear b2 c0 c1 f0 f1 hz d0 d1 g0 g1 hy B1
      obtain ⟨c0, c1, f0, f1, hz⟩ := RA
      obtain ⟨d0, d1, g0, g1, hy⟩ := RB
      go_wp2_with fail
      with_reducible refine (X _).mono ?_
      rintro e w3 ⟨rfl, b3⟩
      go_wp2
      go_ret
      exact ⟨rfl, on B2 b3⟩
    · have e1 : rcm a b c d = 0 := by unfold rcm; rw [if_neg (fun h => h2 h.2)]
      have h2' : goodB c d = false := by simpa using h2
      rw [h2'] at G2
      rw [e1]
      clear e1 h1 h2 h2'
      go_enter Tryd.func18, Tryd.ntmps18
      go_wp2_with fail
      with_reducible refine (G1 _).mono ?_
      rintro e w1 ⟨rfl, b1⟩
      have RA := ((rbox_new w a b 23).next (new_below _ (.cells #[.int .i64 c, .int .i64 d] 23))).next b1
      have RB := (rbox_new2 w (.cells #[.int .i64 a, .int .i64 b] 23) c d 23).next b1
      have B1 : Below w.heap.size w w1 := on (two_new w _ _) b1
      clear b1
      obtain ⟨c0, c1, f0, f1, hz⟩ := RA
      obtain ⟨d0, d1, g0, g1, hy⟩ := RB
      go_wp2_with fail
      with_reducible refine (G2 _).mono ?_
      rintro e w2 ⟨rfl, b2⟩
      have B2 := on B1 b2
      go_wp2
      go_ret
      exact ⟨rfl, B2⟩
  · have e1 : rcm a b c d = 0 := by unfold rcm; rw [if_neg (fun h => h1 h.1)]
    have h1' : goodB a b = false := by simpa using h1
    rw [h1'] at G1
    rw [e1]
    clear e1 h1 h1'
    go_enter Tryd.func18, Tryd.ntmps18
    go_wp2_with fail
    with_reducible refine (G1 _).mono ?_
    rintro e w1 ⟨rfl, b1⟩
    have B1 : Below w.heap.size w w1 := on (two_new w _ _) b1
    go_wp2
    go_ret
    exact ⟨rfl, B1⟩

theorem wakes_text : prN [45, 51, 47, 50] = -3 ∧ prD [45, 51, 47, 50] = 2 ∧ prE [45, 51, 47, 50] = 0 := by decide +kernel
theorem wakes_make : mkN 6 (-4) = -3 ∧ mkD 6 (-4) = 2 ∧ mkB 6 (-4) = true := by decide +kernel
theorem wakes_round : flo (-3) 2 = -2 ∧ cei (-3) 2 = -1 := by decide +kernel
theorem wakes_signs : txt (-3) 2 = [45, 51, 47, 50] := by decide +kernel

set_option maxHeartbeats 1000000 in
theorem wakes_any (w : World) (hL : LibOk w) : Calls Tryd.prog 13 #[] w fun e w' => e = .returned (.bool true) ∧ Below w.heap.size w w' := by
  have M := make_any 6 (-4) (by unfold I64; omega) (by unfold I64; omega)
  have P := parse_any ⟨#[45, 51, 47, 50]⟩ (by decide)
  have F := rfloorP (-3) 2 (by unfold I64; omega) (by unfold I64; omega)
  have C := rceilP (-3) 2 (by unfold I64; omega) (by unfold I64; omega)
  have T := text_any (-3) 2 (by unfold I64; omega) (by unfold I64; omega)
  rw [mkV_is wakes_make.1 wakes_make.2.1 wakes_make.2.2] at M
  rw [show (⟨#[45, 51, 47, 50]⟩ : ByteArray).data.toList = [45, 51, 47, 50] from rfl, wakes_text.1, wakes_text.2.1, wakes_text.2.2] at P
  rw [wakes_round.1] at F
  rw [wakes_round.2] at C
  rw [wakes_signs] at T
  unfold strV at T
  go_enter Tryd.func13, Tryd.ntmps13
  go_wp2_with fail
  with_reducible refine (M _).mono ?_
  rintro e w1 ⟨rfl, b1⟩
  have B1 : Below w.heap.size w w1 := b1
  have R1 := rbox_new w1 (-3) 2 23
  have b1' := new_below w1 (.cells #[.int .i64 (-3), .int .i64 2] 23)
  have L1 := (hL.below B1).below b1'
  have B1' := on B1 b1'
  clear b1 b1' B1
  go_wp2_with fail
  with_reducible refine (P _ L1).mono ?_
  rintro e w2 ⟨rfl, b2⟩
  have R2 := R1.next b2
  have L2 := L1.below b2
  have B2 := on B1' b2
  clear b2 L1 R1 B1'
  obtain ⟨c0, c1, f0, f1, hz⟩ := R2
  have RR := Lib.hid ((RBox.mk c0 c1 f0 f1 hz).next (new_below w2 (.cells #[.int .i64 (-3), .int .i64 2] 23)))
  have RS := Lib.hid (rbox_new w2 (-3) 2 23)
  have L3 := L2.below (new_below w2 (.cells #[.int .i64 (-3), .int .i64 2] 23))
  have B3 := on B2 (new_below w2 (.cells #[.int .i64 (-3), .int .i64 2] 23))
  go_wp2_with fail
  with_reducible refine (F _).mono ?_
  rintro e w4 ⟨rfl, b4⟩
  have R4 := RR.out.next b4
  have S4 := RS.out.next b4
  have L4 := L3.below b4
  have B4 := on B3 b4
  clear b4 RR RS L2 L3 B2 B3 c0 c1 f0 f1 hz
  obtain ⟨c0, c1, f0, f1, hz⟩ := R4
  obtain ⟨d0, d1, g0, g1, hy⟩ := S4
  go_wp2_with fail
  with_reducible refine (C _).mono ?_
  rintro e w5 ⟨rfl, b5⟩
  have R5 := (RBox.mk c0 c1 f0 f1 hz).next b5
  have S5 := (RBox.mk d0 d1 g0 g1 hy).next b5
  have L5 := L4.below b5
  have B5 := on B4 b5
  clear b5 L4 B4 c0 c1 f0 f1 hz d0 d1 g0 g1 hy
  obtain ⟨c0, c1, f0, f1, hz⟩ := R5
  obtain ⟨d0, d1, g0, g1, hy⟩ := S5
  go_wp2_with fail
  with_reducible refine (T _ L5.tab).mono ?_
  rintro e w6 ⟨rfl, b6⟩
  go_wp2
  go_ret
  exact ⟨rfl, on B5 b6⟩
end Go.Proofs.YtjaabjehegcnaaaDoor
