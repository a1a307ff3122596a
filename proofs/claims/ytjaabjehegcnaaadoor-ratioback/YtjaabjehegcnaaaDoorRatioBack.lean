/-
  RatioBack: a ratio rounded down isn't above it, and not a whole one below; up likewise; sums and products may be taken in any order; a sum of two of whole numbers is theirs. For every six numbers.
  Conditions: none beyond the given statement's own.
-/
import Derived.Test.YtjaabjehegcnaaaDoorLoopKit
import Derived.Test.YtjaabjehegcnaaaDoorRatioWalks3
import Derived.Test.YtjaabjehegcnaaaDoorBackMath
import Derived.Test.YtjaabjehegcnaaaDoorPairFrame
import Derived.Test.YtjaabjehegcnaaaDoorLaidFrame
namespace Go.Proofs.YtjaabjehegcnaaaDoor.ratioBack
set_option maxRecDepth 100000
set_option linter.unusedSimpArgs false
open Go.RowKit

/-- Six ratios, each in a block of its own. -/
def Six (n1 n2 n3 n4 n5 n6 : Nat) (p q r s t u v x y z k l : Int) (w : World) : Prop := RBox n1 p q w ∧ RBox n2 r s w ∧ RBox n3 t u w ∧ RBox n4 v x w ∧ RBox n5 y z w ∧ RBox n6 k l w
section
variable {n1 n2 n3 n4 n5 n6 : Nat} {p q r s t u v x y z k l : Int} {w w' : World}
theorem six_mk (h1 : RBox n1 p q w) (h2 : RBox n2 r s w) (h3 : RBox n3 t u w) (h4 : RBox n4 v x w) (h5 : RBox n5 y z w) (h6 : RBox n6 k l w) : Six n1 n2 n3 n4 n5 n6 p q r s t u v x y z k l w := ⟨h1, h2, h3, h4, h5, h6⟩
theorem six_next (h : Six n1 n2 n3 n4 n5 n6 p q r s t u v x y z k l w) (hb : Below w.heap.size w w') : Six n1 n2 n3 n4 n5 n6 p q r s t u v x y z k l w' := by
  obtain ⟨h1, h2, h3, h4, h5, h6⟩ := h
  exact ⟨h1.next hb, h2.next hb, h3.next hb, h4.next hb, h5.next hb, h6.next hb⟩
theorem six_drew (h : Six n1 n2 n3 n4 n5 n6 p q r s t u v x y z k l w) : Six n1 n2 n3 n4 n5 n6 p q r s t u v x y z k l w.drew := six_next h (drew_below w)
theorem six_cells (h : Six n1 n2 n3 n4 n5 n6 p q r s t u v x y z k l w) : w.cell? ⟨n1, 0, none⟩ = some (.int .i64 p) ∧ w.cell? ⟨n1, 1, none⟩ = some (.int .i64 q) ∧ w.cell? ⟨n2, 0, none⟩ = some (.int .i64 r) ∧ w.cell? ⟨n2, 1, none⟩ = some (.int .i64 s) ∧ w.cell? ⟨n3, 0, none⟩ = some (.int .i64 t) ∧ w.cell? ⟨n3, 1, none⟩ = some (.int .i64 u) ∧ w.cell? ⟨n4, 0, none⟩ = some (.int .i64 v) ∧ w.cell? ⟨n4, 1, none⟩ = some (.int .i64 x) ∧ w.cell? ⟨n5, 0, none⟩ = some (.int .i64 y) ∧ w.cell? ⟨n5, 1, none⟩ = some (.int .i64 z) ∧ w.cell? ⟨n6, 0, none⟩ = some (.int .i64 k) ∧ w.cell? ⟨n6, 1, none⟩ = some (.int .i64 l) := by
  obtain ⟨h1, h2, h3, h4, h5, h6⟩ := h
  exact ⟨h1.c0, h1.c1, h2.c0, h2.c1, h3.c0, h3.c1, h4.c0, h4.c1, h5.c0, h5.c1, h6.c0, h6.c1⟩
end

set_option maxHeartbeats 8000000 in
theorem walk (a b c d z0 z1 : Int) (ha : I64 a) (hb : I64 b) (hc : I64 c) (hd : I64 d) (hz0 : I32 z0) (hz1 : I32 z1) (w : World) (hL : LibOk w) :
    Calls Tryd.prog 7 #[.agg #[.int .i64 a, .int .i64 b], .agg #[.int .i64 c, .int .i64 d], .agg #[.int .i32 z0, .int .i32 z1]] w fun e w' => e = .returned (.bool true) ∧ Below w.heap.size w w' := by
  have S1 := some_any a b ha hb
  have S2 := some_any c d hc hd
  have n1 := somes_len a b
  have n2 := somes_len c d
  obtain ⟨l1, h1⟩ : ∃ l, somes a b = l := ⟨_, rfl⟩
  obtain ⟨l2, h2⟩ : ∃ l, somes c d = l := ⟨_, rfl⟩
  rw [h1] at S1 n1
  rw [h2] at S2 n2
  clear h1 h2
  obtain ⟨m1, hm1⟩ : ∃ m, l1.length = m := ⟨_, rfl⟩
  obtain ⟨m2, hm2⟩ : ∃ m, l2.length = m := ⟨_, rfl⟩
  unfold IsSome at S1 S2
  rw [hm1] at S1 n1
  rw [hm2] at S2 n2
  have HM1 := Lib.hid hm1
  have HM2 := Lib.hid hm2
  clear hm1 hm2
  go_enter Tryd.func7, Tryd.ntmps7
  go_wp2
  go_quiet (fail)
  go_wp2_with fail
  with_reducible refine (S1 _).mono ?_
  rintro e w1 ⟨⟨g1, k1, rfl, q1, q2, R1⟩, b1⟩
  have O1 : Out w g1 l1 c d w1 := ⟨R1, ((rbox_new2 w (.cells #[.int .i64 a, .int .i64 b] 31) c d 31).next (new_below _ (.cells #[.int .i32 z0, .int .i32 z1] 49))).drew _ |>.next b1, (hL.below (below_drewN (three_new w _ _ _) _)).below b1, on (below_drewN (three_new w _ _ _) _) b1⟩
  have H1 := Lib.hid O1
  clear O1 b1 R1 hL
  go_wp2_with fail
  go_loopw [34] (fun i wr => ∃ k : Nat, k ≤ m1 ∧ i = .int .i64 k ∧ Out w g1 l1 c d wr) (fun i _ => m1 - (intOf i).toNat)
  case atStart => exact ⟨0, by omega, rfl, H1.out⟩
  case round =>
    obtain ⟨k, hk, rfl, hO⟩ := hrel
    obtain ⟨wO, hwO⟩ : ∃ x, x = wr := ⟨wr, rfl⟩
    subst hwO
    by_cases hlt : k < m1
    · obtain ⟨p, q, hp, hq, hi⟩ := hO.L.get (i := k) (by rw [HM1.out]; exact hlt)
      have HO := Lib.hid hO
      obtain ⟨y0, y1, y2, y3, y4⟩ := hO.Y
      clear hO
      obtain ⟨ip, iq⟩ := hi
      have bA := new_below wO (.cells #[.int .i64 p, .int .i64 q] 23)
      have OA := Lib.hid (HO.out.next bA)
      have RA := Lib.hid (rbox_new wO p q 23)
      clear bA HO
      go_wp2_with fail
      with_reducible refine (S2 _).mono ?_
      rintro e w2 ⟨⟨g2, k2, rfl, r1, r2, R2⟩, b2⟩
      have HI := Lib.hid (Inn.mk (OA.out.next b2) (RA.out.next b2) R2)
      clear b2 R2 OA RA y0 y1 y2 y3 y4 hp hq
      have PA := Lib.hid (fun r s ir is => padd_any p q r s ip iq ir is)
      have PB := Lib.hid (fun r s ir is => padd_any r s p q ir is ip iq)
      have PM := Lib.hid (fun r s ir is => pmul_any p q r s ip iq ir is)
      have PN := Lib.hid (fun r s ir is => pmul_any r s p q ir is ip iq)
      have CA := Lib.hid (fun r s ir is => rcmpP p q r s ip iq ir is)
      have CB := Lib.hid (fun r s ir is => rcmpP r s p q ir is ip iq)
      go_wp2_with fail
      go_loopw [41] (fun i wr' => ∃ k' : Nat, k' ≤ m2 ∧ i = .int .i64 k' ∧ Inn w g1 l1 c d wO.heap.size p q g2 l2 wr') (fun i _ => m2 - (intOf i).toNat)
      case atStart => exact ⟨0, by omega, rfl, HI.out⟩
      case round =>
        obtain ⟨k', hk', rfl, hN⟩ := hrel
        by_cases hlt' : k' < m2
        · obtain ⟨r, s, hr, hs, ir, is⟩ := hN.M.get (i := k') (by rw [HM2.out]; exact hlt')
          have HN := Lib.hid hN
          obtain ⟨a0, a1, a2, a3, a4⟩ := hN.A
          clear hN
          have NA := Lib.hid (HN.out.next (new_below wr (.cells #[.int .i64 r, .int .i64 s] 23)))
          have NB := Lib.hid (rbox_new wr r s 23)
          clear HN
          have c1 := PA.out r s ir is
          have c2 := PB.out r s ir is
          have c3 := PM.out r s ir is
          have c4 := PN.out r s ir is
          have c5 := CA.out r s ir is
          have c6 := CB.out r s ir is
          rw [(sm_turn p q r s).1, (sm_turn p q r s).2.1, (sm_turn p q r s).2.2] at c2
          rw [(pd_turn p q r s).1, (pd_turn p q r s).2.1, (pd_turn p q r s).2.2] at c4
          rw [rcm_turn p q r s] at c5
          have bd := rcm_bd r s p q
          obtain ⟨x1, e1⟩ : ∃ x, smN p q r s = x := ⟨_, rfl⟩
          obtain ⟨x2, e2⟩ : ∃ x, smD p q r s = x := ⟨_, rfl⟩
          obtain ⟨x3, e3⟩ : ∃ x, smB p q r s = x := ⟨_, rfl⟩
          obtain ⟨x4, e4⟩ : ∃ x, pdN p q r s = x := ⟨_, rfl⟩
          obtain ⟨x5, e5⟩ : ∃ x, pdD p q r s = x := ⟨_, rfl⟩
          obtain ⟨x6, e6⟩ : ∃ x, pdOk p q r s = x := ⟨_, rfl⟩
          obtain ⟨x7, e7⟩ : ∃ x, rcm r s p q = x := ⟨_, rfl⟩
          rw [e1, e2, e3] at c1 c2
          rw [e4, e5, e6] at c3 c4
          rw [e7] at c5 c6 bd
          have W7 := kwrap_in (x := -x7) (by unfold I64; omega)
          obtain ⟨bd0, bd1⟩ := bd
          clear e1 e2 e3 e4 e5 e6 e7
          go_wp2_with fail
          with_reducible refine (c1 _).mono ?_
          rintro e w3 ⟨rfl, b3⟩
          have N3 := NA.out.next b3
          have M3 := NB.out.next b3
          have o3 := new_below w3 (.cells #[.int .i64 x1, .int .i64 x2] 23)
          have NA3 := Lib.hid (N3.next o3)
          have NB3 := Lib.hid (M3.next o3)
          have NS3 := Lib.hid (rbox_new w3 x1 x2 23)
          clear NA NB b3 a0 a1 a2 a3 a4 hr hs o3
          obtain ⟨a0, a1, a2, a3, a4⟩ := N3.A
          obtain ⟨d0, d1, d2, d3, d4⟩ := M3
          clear N3
          go_wp2_with fail
          with_reducible refine (c2 _).mono ?_
          rintro e w4 ⟨rfl, b4⟩
          have N4 := NA3.out.next b4
          have M4 := NB3.out.next b4
          have o4 := new_below w4 (.cells #[.int .i64 x1, .int .i64 x2] 23)
          have NA4 := Lib.hid (N4.next o4)
          have NB4 := Lib.hid (M4.next o4)
          have NS4 := Lib.hid ((NS3.out.next b4).next o4)
          have NT4 := Lib.hid (rbox_new w4 x1 x2 23)
          clear NA3 NB3 NS3 b4 a0 a1 a2 a3 a4 d0 d1 d2 d3 d4 o4
          obtain ⟨a0, a1, a2, a3, a4⟩ := N4.A
          obtain ⟨d0, d1, d2, d3, d4⟩ := M4
          clear N4
          go_wp2_with fail
          with_reducible refine (c3 _).mono ?_
          rintro e w5 ⟨rfl, b5⟩
          have N5 := NA4.out.next b5
          have M5 := NB4.out.next b5
          have o5 := new_below w5 (.cells #[.int .i64 x4, .int .i64 x5] 23)
          have NA5 := Lib.hid (N5.next o5)
          have NB5 := Lib.hid (M5.next o5)
          have NS5 := Lib.hid ((NS4.out.next b5).next o5)
          have NT5 := Lib.hid ((NT4.out.next b5).next o5)
          have NP5 := Lib.hid (rbox_new w5 x4 x5 23)
          clear NA4 NB4 NS4 NT4 b5 a0 a1 a2 a3 a4 d0 d1 d2 d3 d4 o5
          obtain ⟨a0, a1, a2, a3, a4⟩ := N5.A
          obtain ⟨d0, d1, d2, d3, d4⟩ := M5
          clear N5
          go_wp2_with fail
          with_reducible refine (c4 _).mono ?_
          rintro e w6 ⟨rfl, b6⟩
          have o6 := new_below w6 (.cells #[.int .i64 x4, .int .i64 x5] 23)
          have NA6 := Lib.hid ((NA5.out.next b6).next o6)
          have NB6 := Lib.hid ((NB5.out.next b6).next o6)
          have NS6 := Lib.hid ((NS5.out.next b6).next o6)
          have NT6 := Lib.hid ((NT5.out.next b6).next o6)
          have NP6 := Lib.hid ((NP5.out.next b6).next o6)
          have NQ6 := Lib.hid (rbox_new w6 x4 x5 23)
          clear NA5 NB5 NS5 NT5 NP5 b6 a0 a1 a2 a3 a4 d0 d1 d2 d3 d4 o6 c1 c2 c3 c4
          have z6 : Hid (True) := trivial
          go_wp2_with fail
          go_region_held3 (fun w' => w'.cell? ⟨wO.heap.size, 0, none⟩ = some (.int .i64 p) ∧ w'.cell? ⟨wO.heap.size, 1, none⟩ = some (.int .i64 q) ∧ w'.cell? ⟨wr.heap.size, 0, none⟩ = some (.int .i64 r) ∧ w'.cell? ⟨wr.heap.size, 1, none⟩ = some (.int .i64 s) ∧ w'.cell? ⟨w3.heap.size, 0, none⟩ = some (.int .i64 x1) ∧ w'.cell? ⟨w3.heap.size, 1, none⟩ = some (.int .i64 x2) ∧ w'.cell? ⟨w4.heap.size, 0, none⟩ = some (.int .i64 x1) ∧ w'.cell? ⟨w4.heap.size, 1, none⟩ = some (.int .i64 x2) ∧ w'.cell? ⟨w5.heap.size, 0, none⟩ = some (.int .i64 x4) ∧ w'.cell? ⟨w5.heap.size, 1, none⟩ = some (.int .i64 x5) ∧ w'.cell? ⟨w6.heap.size, 0, none⟩ = some (.int .i64 x4) ∧ w'.cell? ⟨w6.heap.size, 1, none⟩ = some (.int .i64 x5))
            (first | exact six_cells (six_drew (six_mk NA6.out.A NB6.out NS6.out NT6.out NP6.out NQ6.out)) | exact six_cells (six_next (six_drew (six_mk NA6.out.A NB6.out NS6.out NT6.out NP6.out NQ6.out)) b7) | exact six_cells (six_next (six_next (six_drew (six_mk NA6.out.A NB6.out NS6.out NT6.out NP6.out NQ6.out)) b7) b8))
            (first
              | (go_at_call 18; first | ((with_reducible refine (c5 _).mono ?_); rintro e w7 ⟨rfl, b7⟩) | ((with_reducible refine (c6 _).mono ?_); rintro e w8 ⟨rfl, b8⟩)))
          have HI8 := Lib.hid (((NA6.out.next (drew_below _)).next b7).next b8)
          clear NA6 NB6 NS6 NT6 NP6 NQ6 b7 b8 c5 c6
          go_wp2
          go_roundw
          case rel => exact ⟨k' + 1, by omega, by go_num, HI8.out⟩
          case measure => simp [intOf]; omega
        · obtain rfl : k' = m2 := by omega
          have HN := Lib.hid hN
          obtain ⟨a0, a1, a2, a3, a4⟩ := hN.A
          clear hN HI PA PB PM PN CA CB S1 S2
          have G := good_any p q ip iq
          by_cases hg : goodB p q = true
          · rw [hg] at G
            obtain ⟨u1, u2, u3, u4⟩ := round_all hg
            obtain ⟨il, ih⟩ := round_in hg ip
            have F := rfloorP p q ip iq
            have E := rceilP p q ip iq
            rw [show flo p q = p.fdiv q by unfold flo; rw [if_pos hg]] at F
            rw [show cei p q = cdiv p q by unfold cei; rw [if_pos hg]] at E
            have one : I64 1 := by unfold I64; omega
            have c7 := rcmpP (p.fdiv q) 1 p q il one ip iq
            have c8 := rcmpP (cdiv p q) 1 p q ih one ip iq
            have v7 : rcm (p.fdiv q) 1 p q ≤ 0 := by
              unfold rcm; rw [if_pos ⟨good_one _, hg⟩]; unfold cmp3; (repeat' split) <;> omega
            have v8 : 0 ≤ rcm (cdiv p q) 1 p q := by
              unfold rcm; rw [if_pos ⟨good_one _, hg⟩]; unfold cmp3; (repeat' split) <;> omega
            obtain ⟨low, hlow⟩ : ∃ x, p.fdiv q = x := ⟨_, rfl⟩
            obtain ⟨high, hhigh⟩ : ∃ x, cdiv p q = x := ⟨_, rfl⟩
            rw [hlow] at F c7 v7 u1 u3 u4 il
            rw [hhigh] at E c8 v8 u2 u3 u4 ih
            obtain ⟨x7, e7⟩ : ∃ x, rcm low 1 p q = x := ⟨_, rfl⟩
            obtain ⟨x8, e8⟩ : ∃ x, rcm high 1 p q = x := ⟨_, rfl⟩
            rw [e7] at c7 v7
            rw [e8] at c8 v8
            have t7 : decide (0 < x7) = false := by simp; omega
            have t8 : decide (x8 < 0) = false := by simp; omega
            clear hlow hhigh e7 e8 u1 u2 hg
            have OL := of_ratio low
            have OH := of_ratio high
            go_wp2_with fail
            with_reducible refine (G _).mono ?_
            rintro e w3 ⟨rfl, b3⟩
            have HN3 := Lib.hid (HN.out.next b3)
            clear HN b3 a0 a1 a2 a3 a4 G
            obtain ⟨a0, a1, a2, a3, a4⟩ := HN3.out.A
            go_wp2
            go_region_held3 (fun w' => w'.cell? ⟨wO.heap.size, 0, none⟩ = some (.int .i64 p) ∧ w'.cell? ⟨wO.heap.size, 1, none⟩ = some (.int .i64 q)) (first | exact one_cells HN3.out.A.drew1 | exact one_cells (HN3.out.A.drew1.next b4) | exact one_cells ((HN3.out.A.drew1.next b4).next b5))
              (first
                | (go_at_call 20; (with_reducible refine (F _).mono ?_); rintro e w4 ⟨rfl, b4⟩)
                | (go_at_call 22; (with_reducible refine (E _).mono ?_); rintro e w5 ⟨rfl, b5⟩))
            have HN5 := Lib.hid (((HN3.out.next (drew_below _)).next b4).next b5)
            clear HN3 b4 b5 a0 a1 a2 a3 a4 F E
            obtain ⟨a0, a1, a2, a3, a4⟩ := HN5.out.A
            by_cases hq1 : q = 1
            · have f2 : (q == 1) = true := by simp [hq1]
              have hll := u3.2 hq1
              have f1 : (low == high) = true := by simp [hll]
              have f3 : (low != high) = false := by simp [hll]
              clear hll hq1 u3 u4
              go_wp2
              refine wp_region_noPanic ?_
              refine wp_region_held_drew (S := (fun w' => w'.cell? ⟨wO.heap.size, 0, none⟩ = some (.int .i64 p) ∧ w'.cell? ⟨wO.heap.size, 1, none⟩ = some (.int .i64 q))) (by kernel_rfl) ?_ (fun hHeld => ?_)
              · exact one_cells HN5.out.A.drew1
              refine wpAnyH_take (i := 0) (oi := { dst := some 105, op := Op.move (Operand.tmp 21), type := 2, pos := "law.go:97", after := #[], guard := none }) (v := ?_) rfl (by kernel_rfl) (by kernel_rfl) (by kernel_rfl) (fun _ _ _ h => h) (Or.inl ⟨by rfl, ?_⟩) (by assumption) ?_
              rotate_left
              · (intro w hSw; (try dsimp only at hSw); go_simp; try with_reducible rfl)
              try simp only [Act.put, List.setIfInBounds_toArray, List.set_cons_zero, List.set_cons_succ]
              refine wpAnyH_take (i := 2) (oi := { dst := some 107, op := Op.load 23 (Operand.tmp 10), type := 23, pos := "law.go:97", after := #[], guard := none }) (v := ?_) rfl (by kernel_rfl) (by kernel_rfl) (by kernel_rfl) (fun _ _ _ h => h) (Or.inl ⟨by rfl, ?_⟩) (by assumption) ?_
              rotate_left
              · (intro w hSw; (try dsimp only at hSw); go_simp; try with_reducible rfl)
              try simp only [Act.put, List.setIfInBounds_toArray, List.set_cons_zero, List.set_cons_succ]
              refine wpAnyH_ready (rs := [1]) (by kernel_rfl) (by simp) ?_
              refine AllReadyH.cons (o := { dst := some 106, op := Op.call { callee := Callee.value (Operand.func 16), args := #[Operand.tmp 105], argTypes := #[2] }, type := 23, pos := "law.go:97", after := #[{ on := 0, ground := Ground.data }], guard := none }) rfl (fun K hK => ?_) AllReadyH.nil
              go_simp
              (with_reducible refine (OL _).mono ?_)
              rintro e w6 ⟨rfl, b6⟩
              go_wp2_with fail
              refine hK.out _ _ ?_ (fun hHeld => ?_)
              · exact one_cells (HN5.out.A.drew1.next b6)
              clear hK K
              try simp only [Act.put, List.setIfInBounds_toArray, List.set_cons_zero, List.set_cons_succ]
              refine wpAnyH_ready (rs := [3]) (by kernel_rfl) (by simp) ?_
              refine AllReadyH.cons (o := { dst := some 108, op := Op.call { callee := Callee.value (Operand.func 18), args := #[Operand.tmp 106, Operand.tmp 107], argTypes := #[23, 23] }, type := 3, pos := "law.go:97", after := #[{ on := 1, ground := Ground.data }, { on := 2, ground := Ground.data }, { on := 1, ground := Ground.chain }], guard := none }) rfl (fun K hK => ?_) AllReadyH.nil
              go_simp
              (with_reducible refine (c7 _).mono ?_)
              rintro e w7 ⟨rfl, b7⟩
              go_wp2_with fail
              refine hK.out _ _ ?_ (fun hHeld => ?_)
              · exact one_cells ((HN5.out.A.drew1.next b6).next b7)
              clear hK K
              try simp only [Act.put, List.setIfInBounds_toArray, List.set_cons_zero, List.set_cons_succ]
              refine wpAnyH_take (i := 4) (oi := { dst := some 109, op := Op.binOp BinOp.gtr 3 (Operand.tmp 108) (Operand.const (Value.int IntKind.i64 0)) 3, type := 4, pos := "law.go:97", after := #[{ on := 3, ground := Ground.data }], guard := none }) (v := ?_) rfl (by kernel_rfl) (by kernel_rfl) (by kernel_rfl) (fun _ _ _ h => h) (Or.inl ⟨by rfl, ?_⟩) (by assumption) ?_
              rotate_left
              · (intro w hSw; (try dsimp only at hSw); go_simp; try with_reducible rfl)
              try simp only [Act.put, List.setIfInBounds_toArray, List.set_cons_zero, List.set_cons_succ]
              refine wpAnyH_take (i := 5) (oi := { dst := some 110, op := Op.move (Operand.tmp 109), type := 4, pos := "law.go:97", after := #[{ on := 4, ground := Ground.data }, { on := 3, ground := Ground.chain }], guard := none }) (v := ?_) rfl (by kernel_rfl) (by kernel_rfl) (by kernel_rfl) (fun _ _ _ h => h) (Or.inl ⟨by rfl, ?_⟩) (by assumption) ?_
              rotate_left
              · (intro w hSw; (try dsimp only at hSw); go_simp; try with_reducible rfl)
              try simp only [Act.put, List.setIfInBounds_toArray, List.set_cons_zero, List.set_cons_succ]
              refine wpAnyH_take (i := 6) (oi := { dst := some 111, op := Op.move (Operand.tmp 22), type := 2, pos := "law.go:97", after := #[{ on := 5, ground := Ground.guard }], guard := some (5, false) }) (v := ?_) rfl (by kernel_rfl) (by kernel_rfl) (by kernel_rfl) (fun _ _ _ h => h) (Or.inl ⟨by rfl, ?_⟩) (by assumption) ?_
              rotate_left
              · (intro w hSw; (try dsimp only at hSw); go_simp; try with_reducible rfl)
              try simp only [Act.put, List.setIfInBounds_toArray, List.set_cons_zero, List.set_cons_succ]
              refine wpAnyH_take (i := 8) (oi := { dst := some 113, op := Op.load 23 (Operand.tmp 10), type := 23, pos := "law.go:97", after := #[{ on := 5, ground := Ground.guard }], guard := some (5, false) }) (v := ?_) rfl (by kernel_rfl) (by kernel_rfl) (by kernel_rfl) (fun _ _ _ h => h) (Or.inl ⟨by rfl, ?_⟩) (by assumption) ?_
              rotate_left
              · (intro w hSw; (try dsimp only at hSw); go_simp; try with_reducible rfl)
              try simp only [Act.put, List.setIfInBounds_toArray, List.set_cons_zero, List.set_cons_succ]
              refine wpAnyH_ready (rs := [7]) (by kernel_rfl) (by simp) ?_
              refine AllReadyH.cons (o := { dst := some 112, op := Op.call { callee := Callee.value (Operand.func 16), args := #[Operand.tmp 111], argTypes := #[2] }, type := 23, pos := "law.go:97", after := #[{ on := 6, ground := Ground.data }, { on := 5, ground := Ground.chain }, { on := 5, ground := Ground.guard }], guard := some (5, false) }) rfl (fun K hK => ?_) AllReadyH.nil
              go_simp
              (with_reducible refine (OH _).mono ?_)
              rintro e w8 ⟨rfl, b8⟩
              go_wp2_with fail
              refine hK.out _ _ ?_ (fun hHeld => ?_)
              · exact one_cells (((HN5.out.A.drew1.next b6).next b7).next b8)
              clear hK K
              try simp only [Act.put, List.setIfInBounds_toArray, List.set_cons_zero, List.set_cons_succ]
              refine wpAnyH_ready (rs := [9]) (by kernel_rfl) (by simp) ?_
              refine AllReadyH.cons (o := { dst := some 114, op := Op.call { callee := Callee.value (Operand.func 18), args := #[Operand.tmp 112, Operand.tmp 113], argTypes := #[23, 23] }, type := 3, pos := "law.go:97", after := #[{ on := 7, ground := Ground.data }, { on := 8, ground := Ground.data }, { on := 7, ground := Ground.chain }, { on := 5, ground := Ground.guard }], guard := some (5, false) }) rfl (fun K hK => ?_) AllReadyH.nil
              go_simp
              (with_reducible refine (c8 _).mono ?_)
              rintro e w9 ⟨rfl, b9⟩
              go_wp2_with fail
              refine hK.out _ _ ?_ (fun hHeld => ?_)
              · exact one_cells ((((HN5.out.A.drew1.next b6).next b7).next b8).next b9)
              clear hK K
              try simp only [Act.put, List.setIfInBounds_toArray, List.set_cons_zero, List.set_cons_succ]
              refine wpAnyH_take (i := 10) (oi := { dst := some 115, op := Op.binOp BinOp.lss 3 (Operand.tmp 114) (Operand.const (Value.int IntKind.i64 0)) 3, type := 4, pos := "law.go:97", after := #[{ on := 9, ground := Ground.data }, { on := 5, ground := Ground.guard }], guard := some (5, false) }) (v := ?_) rfl (by kernel_rfl) (by kernel_rfl) (by kernel_rfl) (fun _ _ _ h => h) (Or.inl ⟨by rfl, ?_⟩) (by assumption) ?_
              rotate_left
              · (intro w hSw; (try dsimp only at hSw); go_simp; try with_reducible rfl)
              try simp only [Act.put, List.setIfInBounds_toArray, List.set_cons_zero, List.set_cons_succ]
              refine wpAnyH_take (i := 11) (oi := { dst := some 116, op := Op.pick (Operand.tmp 110) (Operand.const (Value.bool true)) (Operand.tmp 115), type := 4, pos := "law.go:97", after := #[{ on := 5, ground := Ground.data }, { on := 10, ground := Ground.data }], guard := none }) (v := ?_) rfl (by kernel_rfl) (by kernel_rfl) (by kernel_rfl) (fun _ _ _ h => h) (Or.inl ⟨by rfl, ?_⟩) (by assumption) ?_
              rotate_left
              · (intro w hSw; (try dsimp only at hSw); go_simp; try with_reducible rfl)
              try simp only [Act.put, List.setIfInBounds_toArray, List.set_cons_zero, List.set_cons_succ]
              refine wpAnyH_take (i := 12) (oi := { dst := some 117, op := Op.move (Operand.tmp 116), type := 4, pos := "law.go:97", after := #[{ on := 11, ground := Ground.data }, { on := 9, ground := Ground.chain }], guard := none }) (v := ?_) rfl (by kernel_rfl) (by kernel_rfl) (by kernel_rfl) (fun _ _ _ h => h) (Or.inl ⟨by rfl, ?_⟩) (by assumption) ?_
              rotate_left
              · (intro w hSw; (try dsimp only at hSw); go_simp; try with_reducible rfl)
              try simp only [Act.put, List.setIfInBounds_toArray, List.set_cons_zero, List.set_cons_succ]
              refine wpAnyH_take (i := 13) (oi := { dst := some 118, op := Op.move (Operand.tmp 21), type := 2, pos := "law.go:97", after := #[{ on := 12, ground := Ground.guard }], guard := some (12, false) }) (v := ?_) rfl (by kernel_rfl) (by kernel_rfl) (by kernel_rfl) (fun _ _ _ h => h) (Or.inl ⟨by rfl, ?_⟩) (by assumption) ?_
              rotate_left
              · (intro w hSw; (try dsimp only at hSw); go_simp; try with_reducible rfl)
              try simp only [Act.put, List.setIfInBounds_toArray, List.set_cons_zero, List.set_cons_succ]
              refine wpAnyH_take (i := 14) (oi := { dst := some 119, op := Op.move (Operand.tmp 22), type := 2, pos := "law.go:97", after := #[{ on := 12, ground := Ground.guard }], guard := some (12, false) }) (v := ?_) rfl (by kernel_rfl) (by kernel_rfl) (by kernel_rfl) (fun _ _ _ h => h) (Or.inl ⟨by rfl, ?_⟩) (by assumption) ?_
              rotate_left
              · (intro w hSw; (try dsimp only at hSw); go_simp; try with_reducible rfl)
              try simp only [Act.put, List.setIfInBounds_toArray, List.set_cons_zero, List.set_cons_succ]
              refine wpAnyH_take (i := 15) (oi := { dst := some 120, op := Op.binOp BinOp.eql 2 (Operand.tmp 118) (Operand.tmp 119) 2, type := 4, pos := "law.go:97", after := #[{ on := 13, ground := Ground.data }, { on := 14, ground := Ground.data }, { on := 12, ground := Ground.guard }], guard := some (12, false) }) (v := ?_) rfl (by kernel_rfl) (by kernel_rfl) (by kernel_rfl) (fun _ _ _ h => h) (Or.inl ⟨by rfl, ?_⟩) (by assumption) ?_
              rotate_left
              · (intro w hSw; (try dsimp only at hSw); go_simp; try with_reducible rfl)
              try simp only [Act.put, List.setIfInBounds_toArray, List.set_cons_zero, List.set_cons_succ]
              refine wpAnyH_take (i := 16) (oi := { dst := some 121, op := Op.fieldAddr 23 (Operand.tmp 10) 1, type := 0, pos := "law.go:97", after := #[{ on := 12, ground := Ground.guard }], guard := some (12, false) }) (v := ?_) rfl (by kernel_rfl) (by kernel_rfl) (by kernel_rfl) (fun _ _ _ h => h) (Or.inl ⟨by rfl, ?_⟩) (by assumption) ?_
              rotate_left
              · (intro w hSw; (try dsimp only at hSw); go_simp; try with_reducible rfl)
              try simp only [Act.put, List.setIfInBounds_toArray, List.set_cons_zero, List.set_cons_succ]
              refine wpAnyH_take (i := 17) (oi := { dst := some 122, op := Op.load 2 (Operand.tmp 121), type := 2, pos := "law.go:97", after := #[{ on := 16, ground := Ground.data }, { on := 12, ground := Ground.guard }], guard := some (12, false) }) (v := ?_) rfl (by kernel_rfl) (by kernel_rfl) (by kernel_rfl) (fun _ _ _ h => h) (Or.inl ⟨by rfl, ?_⟩) (by assumption) ?_
              rotate_left
              · (intro w hSw; (try dsimp only at hSw); go_simp; try with_reducible rfl)
              try simp only [Act.put, List.setIfInBounds_toArray, List.set_cons_zero, List.set_cons_succ]
              refine wpAnyH_take (i := 18) (oi := { dst := some 123, op := Op.binOp BinOp.eql 2 (Operand.tmp 122) (Operand.const (Value.int IntKind.i64 1)) 2, type := 4, pos := "law.go:97", after := #[{ on := 17, ground := Ground.data }, { on := 12, ground := Ground.guard }], guard := some (12, false) }) (v := ?_) rfl (by kernel_rfl) (by kernel_rfl) (by kernel_rfl) (fun _ _ _ h => h) (Or.inl ⟨by rfl, ?_⟩) (by assumption) ?_
              rotate_left
              · (intro w hSw; (try dsimp only at hSw); go_simp; try with_reducible rfl)
              try simp only [Act.put, List.setIfInBounds_toArray, List.set_cons_zero, List.set_cons_succ]
              refine wpAnyH_take (i := 19) (oi := { dst := some 124, op := Op.binOp BinOp.neq 4 (Operand.tmp 120) (Operand.tmp 123) 4, type := 4, pos := "law.go:97", after := #[{ on := 15, ground := Ground.data }, { on := 18, ground := Ground.data }, { on := 12, ground := Ground.guard }], guard := some (12, false) }) (v := ?_) rfl (by kernel_rfl) (by kernel_rfl) (by kernel_rfl) (fun _ _ _ h => h) (Or.inl ⟨by rfl, ?_⟩) (by assumption) ?_
              rotate_left
              · (intro w hSw; (try dsimp only at hSw); go_simp; try with_reducible rfl)
              try simp only [Act.put, List.setIfInBounds_toArray, List.set_cons_zero, List.set_cons_succ]
              refine wpAnyH_take (i := 20) (oi := { dst := some 125, op := Op.pick (Operand.tmp 117) (Operand.const (Value.bool true)) (Operand.tmp 124), type := 4, pos := "law.go:97", after := #[{ on := 12, ground := Ground.data }, { on := 19, ground := Ground.data }], guard := none }) (v := ?_) rfl (by kernel_rfl) (by kernel_rfl) (by kernel_rfl) (fun _ _ _ h => h) (Or.inl ⟨by rfl, ?_⟩) (by assumption) ?_
              rotate_left
              · (intro w hSw; (try dsimp only at hSw); go_simp; try with_reducible rfl)
              try simp only [Act.put, List.setIfInBounds_toArray, List.set_cons_zero, List.set_cons_succ]
              refine wpAnyH_take (i := 21) (oi := { dst := some 126, op := Op.move (Operand.tmp 125), type := 4, pos := "law.go:97", after := #[{ on := 20, ground := Ground.data }, { on := 12, ground := Ground.chain }], guard := none }) (v := ?_) rfl (by kernel_rfl) (by kernel_rfl) (by kernel_rfl) (fun _ _ _ h => h) (Or.inl ⟨by rfl, ?_⟩) (by assumption) ?_
              rotate_left
              · (intro w hSw; (try dsimp only at hSw); go_simp; try with_reducible rfl)
              try simp only [Act.put, List.setIfInBounds_toArray, List.set_cons_zero, List.set_cons_succ]
              refine wpAnyH_take (i := 22) (oi := { dst := some 127, op := Op.move (Operand.tmp 21), type := 2, pos := "law.go:97", after := #[{ on := 21, ground := Ground.guard }], guard := some (21, false) }) (v := ?_) rfl (by kernel_rfl) (by kernel_rfl) (by kernel_rfl) (fun _ _ _ h => h) (Or.inl ⟨by rfl, ?_⟩) (by assumption) ?_
              rotate_left
              · (intro w hSw; (try dsimp only at hSw); go_simp; try with_reducible rfl)
              try simp only [Act.put, List.setIfInBounds_toArray, List.set_cons_zero, List.set_cons_succ]
              refine wpAnyH_take (i := 23) (oi := { dst := some 128, op := Op.move (Operand.tmp 22), type := 2, pos := "law.go:97", after := #[{ on := 21, ground := Ground.guard }], guard := some (21, false) }) (v := ?_) rfl (by kernel_rfl) (by kernel_rfl) (by kernel_rfl) (fun _ _ _ h => h) (Or.inl ⟨by rfl, ?_⟩) (by assumption) ?_
              rotate_left
              · (intro w hSw; (try dsimp only at hSw); go_simp; try with_reducible rfl)
              try simp only [Act.put, List.setIfInBounds_toArray, List.set_cons_zero, List.set_cons_succ]
              refine wpAnyH_take (i := 24) (oi := { dst := some 129, op := Op.binOp BinOp.neq 2 (Operand.tmp 127) (Operand.tmp 128) 2, type := 4, pos := "law.go:97", after := #[{ on := 22, ground := Ground.data }, { on := 23, ground := Ground.data }, { on := 21, ground := Ground.guard }], guard := some (21, false) }) (v := ?_) rfl (by kernel_rfl) (by kernel_rfl) (by kernel_rfl) (fun _ _ _ h => h) (Or.inl ⟨by rfl, ?_⟩) (by assumption) ?_
              rotate_left
              · (intro w hSw; (try dsimp only at hSw); go_simp; try with_reducible rfl)
              try simp only [Act.put, List.setIfInBounds_toArray, List.set_cons_zero, List.set_cons_succ]
              refine wpAnyH_take (i := 25) (oi := { dst := some 130, op := Op.move (Operand.tmp 129), type := 4, pos := "law.go:97", after := #[{ on := 24, ground := Ground.data }, { on := 21, ground := Ground.chain }, { on := 21, ground := Ground.guard }], guard := some (21, false) }) (v := ?_) rfl (by kernel_rfl) (by kernel_rfl) (by kernel_rfl) (fun _ _ _ h => h) (Or.inl ⟨by rfl, ?_⟩) (by assumption) ?_
              rotate_left
              · (intro w hSw; (try dsimp only at hSw); go_simp; try with_reducible rfl)
              try simp only [Act.put, List.setIfInBounds_toArray, List.set_cons_zero, List.set_cons_succ]
              refine wpAnyH_take (i := 26) (oi := { dst := some 131, op := Op.move (Operand.tmp 22), type := 2, pos := "law.go:97", after := #[{ on := 25, ground := Ground.guard }], guard := some (25, true) }) (v := undef) rfl (by kernel_rfl) (by kernel_rfl) (by kernel_rfl) (fun _ _ _ h => h) (Or.inr ⟨by rfl, rfl⟩) (by assumption) ?_
              try simp only [Act.put, List.setIfInBounds_toArray, List.set_cons_zero, List.set_cons_succ]
              refine wpAnyH_take (i := 27) (oi := { dst := some 132, op := Op.move (Operand.tmp 21), type := 2, pos := "law.go:97", after := #[{ on := 25, ground := Ground.guard }], guard := some (25, true) }) (v := undef) rfl (by kernel_rfl) (by kernel_rfl) (by kernel_rfl) (fun _ _ _ h => h) (Or.inr ⟨by rfl, rfl⟩) (by assumption) ?_
              try simp only [Act.put, List.setIfInBounds_toArray, List.set_cons_zero, List.set_cons_succ]
              refine wpAnyH_take (i := 28) (oi := { dst := some 133, op := Op.binOp BinOp.add 2 (Operand.tmp 132) (Operand.const (Value.int IntKind.i64 1)) 2, type := 2, pos := "law.go:97", after := #[{ on := 27, ground := Ground.data }, { on := 25, ground := Ground.guard }], guard := some (25, true) }) (v := undef) rfl (by kernel_rfl) (by kernel_rfl) (by kernel_rfl) (fun _ _ _ h => h) (Or.inr ⟨by rfl, rfl⟩) (by assumption) ?_
              try simp only [Act.put, List.setIfInBounds_toArray, List.set_cons_zero, List.set_cons_succ]
              refine wpAnyH_take (i := 29) (oi := { dst := some 134, op := Op.binOp BinOp.neq 2 (Operand.tmp 131) (Operand.tmp 133) 2, type := 4, pos := "law.go:97", after := #[{ on := 26, ground := Ground.data }, { on := 28, ground := Ground.data }, { on := 25, ground := Ground.guard }], guard := some (25, true) }) (v := undef) rfl (by kernel_rfl) (by kernel_rfl) (by kernel_rfl) (fun _ _ _ h => h) (Or.inr ⟨by rfl, rfl⟩) (by assumption) ?_
              try simp only [Act.put, List.setIfInBounds_toArray, List.set_cons_zero, List.set_cons_succ]
              refine wpAnyH_take (i := 30) (oi := { dst := some 135, op := Op.pick (Operand.tmp 130) (Operand.tmp 134) (Operand.const (Value.bool false)), type := 4, pos := "law.go:97", after := #[{ on := 25, ground := Ground.data }, { on := 29, ground := Ground.data }, { on := 21, ground := Ground.guard }], guard := some (21, false) }) (v := ?_) rfl (by kernel_rfl) (by kernel_rfl) (by kernel_rfl) (fun _ _ _ h => h) (Or.inl ⟨by rfl, ?_⟩) (by assumption) ?_
              rotate_left
              · (intro w hSw; (try dsimp only at hSw); go_simp; try with_reducible rfl)
              try simp only [Act.put, List.setIfInBounds_toArray, List.set_cons_zero, List.set_cons_succ]
              refine wpAnyH_take (i := 31) (oi := { dst := some 136, op := Op.pick (Operand.tmp 126) (Operand.const (Value.bool true)) (Operand.tmp 135), type := 4, pos := "law.go:97", after := #[{ on := 21, ground := Ground.data }, { on := 30, ground := Ground.data }], guard := none }) (v := ?_) rfl (by kernel_rfl) (by kernel_rfl) (by kernel_rfl) (fun _ _ _ h => h) (Or.inl ⟨by rfl, ?_⟩) (by assumption) ?_
              rotate_left
              · (intro w hSw; (try dsimp only at hSw); go_simp; try with_reducible rfl)
              try simp only [Act.put, List.setIfInBounds_toArray, List.set_cons_zero, List.set_cons_succ]
              refine wpAnyH_done (by kernel_rfl) ?_ _
              refine NoPanic.normal ?_
              have HO9 := Lib.hid (((((HN5.out.O.next (drew_below _)).next b6).next b7).next b8).next b9)
              clear HN5 b6 b7 b8 b9 a0 a1 a2 a3 a4 c7 c8 OL OH
              go_wp2
              go_roundw
              case rel => exact ⟨k + 1, by omega, by go_num, HO9.out⟩
              case measure => simp [intOf]; omega
            · have f2 : (q == 1) = false := by simp [hq1]
              have hll : low ≠ high := fun h => hq1 (u3.1 h)
              have hlw := u4 hll
              have f1 : (low == high) = false := by simp [hll]
              have f3 : (low != high) = true := by simp [hll]
              have f4 : IntKind.i64.wrap (low + 1) = high := by rw [← hlw]; exact kwrap_in ih
              clear hll hlw hq1 u3 u4
              go_wp2
              go_region_held3 (fun w' => w'.cell? ⟨wO.heap.size, 0, none⟩ = some (.int .i64 p) ∧ w'.cell? ⟨wO.heap.size, 1, none⟩ = some (.int .i64 q)) (first | exact one_cells HN5.out.A.drew1 | exact one_cells (HN5.out.A.drew1.next b6) | exact one_cells ((HN5.out.A.drew1.next b6).next b7) | exact one_cells (((HN5.out.A.drew1.next b6).next b7).next b8) | exact one_cells ((((HN5.out.A.drew1.next b6).next b7).next b8).next b9))
                (first
                  | (go_at_call 16; first | ((with_reducible refine (OL _).mono ?_); rintro e w6 ⟨rfl, b6⟩) | ((with_reducible refine (OH _).mono ?_); rintro e w8 ⟨rfl, b8⟩))
                  | (go_at_call 18; first | ((with_reducible refine (c7 _).mono ?_); rintro e w7 ⟨rfl, b7⟩) | ((with_reducible refine (c8 _).mono ?_); rintro e w9 ⟨rfl, b9⟩)))
              have HO9 := Lib.hid (((((HN5.out.O.next (drew_below _)).next b6).next b7).next b8).next b9)
              clear HN5 b6 b7 b8 b9 a0 a1 a2 a3 a4 c7 c8 OL OH
              go_wp2
              go_roundw
              case rel => exact ⟨k + 1, by omega, by go_num, HO9.out⟩
              case measure => simp [intOf]; omega
          · have hg' : goodB p q = false := by simpa using hg
            rw [hg'] at G
            clear hg hg'
            go_wp2_with fail
            with_reducible refine (G _).mono ?_
            rintro e w3 ⟨rfl, b3⟩
            have HO3 := Lib.hid (HN.out.O.next b3)
            clear HN b3 a0 a1 a2 a3 a4 G
            go_wp2
            go_roundw
            case rel => exact ⟨k + 1, by omega, by go_num, HO3.out⟩
            case measure => simp [intOf]; omega
    · obtain rfl : k = m1 := by omega
      have HO := Lib.hid hO
      have ok := Lib.hid hO.ok
      clear hO H1 S1 S2
      have O1 := of_ratio z0
      have O2 := of_ratio z1
      have O3 := of_ratio (z0 + z1)
      have O4 := of_ratio (z0 * z1)
      have iz0 : I64 z0 := by unfold I32 at hz0; unfold I64; omega
      have iz1 : I64 z1 := by unfold I32 at hz1; unfold I64; omega
      have one : I64 1 := by unfold I64; omega
      have A := padd_any z0 1 z1 1 iz0 one iz1 one
      have M := pmul_any z0 1 z1 1 iz0 one iz1 one
      rw [(whole_sum hz0 hz1).1, (whole_sum hz0 hz1).2.1, (whole_sum hz0 hz1).2.2] at A
      rw [(whole_pro hz0 hz1).1, (whole_pro hz0 hz1).2.1, (whole_pro hz0 hz1).2.2] at M
      have mb := mul32 hz0 hz1
      have W1 := wrap_in (x := z0 * z1) (by unfold I64; omega)
      have W2 := wrap_in (x := z0 + z1) (by unfold I64 I32 at *; omega)
      have W3 := wrap_in iz0
      have W4 := wrap_in iz1
      obtain ⟨z00, z01⟩ := hz0
      obtain ⟨z10, z11⟩ := hz1
      obtain ⟨mb0, mb1⟩ := mb
      clear iz0 iz1 one
      go_wp2_with fail
      with_reducible refine (O1 _).mono ?_
      rintro e w2 ⟨rfl, b2⟩
      go_wp2_with fail
      with_reducible refine (O2 _).mono ?_
      rintro e w3 ⟨rfl, b3⟩
      go_wp2_with fail
      with_reducible refine (A _).mono ?_
      rintro e w4 ⟨rfl, b4⟩
      have o4 := new_below w4 (.cells #[.int .i64 (z0 + z1), .int .i64 1] 23)
      have HB4 := Lib.hid (on (on (on (on HO.out.B b2) b3) b4) o4)
      have HK4 := Lib.hid ((((ok.out.below b2).below b3).below b4).below o4)
      have S4 := Lib.hid (rbox_new w4 (z0 + z1) 1 23)
      clear b2 b3 b4 o4 HO ok
      go_wp2_with fail
      with_reducible refine (O1 _).mono ?_
      rintro e w5 ⟨rfl, b5⟩
      go_wp2_with fail
      with_reducible refine (O2 _).mono ?_
      rintro e w6 ⟨rfl, b6⟩
      go_wp2_with fail
      with_reducible refine (M _).mono ?_
      rintro e w7 ⟨rfl, b7⟩
      have o7 := new_below w7 (.cells #[.int .i64 (z0 * z1), .int .i64 1] 23)
      have HB7 := Lib.hid (on (on (on (on HB4.out b5) b6) b7) o7)
      have HK7 := (((HK4.out.below b5).below b6).below b7).below o7
      have S7 := Lib.hid ((((S4.out.next b5).next b6).next b7).next o7)
      have P7 := Lib.hid (rbox_new w7 (z0 * z1) 1 23)
      have HKd := HK7.below (drew_below _)
      have X1 := kwrap_in (x := z0 * z1) (by unfold I64; omega)
      have X2 := kwrap_in (x := z0 + z1) (by unfold I64; omega)
      have X3 := kwrap_in (x := z0) (by unfold I64; omega)
      have X4 := kwrap_in (x := z1) (by unfold I64; omega)
      clear b5 b6 b7 o7 HB4 HK4 S4 O1 O2 A M
      go_wp2_with fail
      go_region_held3 (fun w' => w'.cell? ⟨w4.heap.size, 0, none⟩ = some (.int .i64 (z0 + z1)) ∧ w'.cell? ⟨w4.heap.size, 1, none⟩ = some (.int .i64 1) ∧ w'.cell? ⟨w7.heap.size, 0, none⟩ = some (.int .i64 (z0 * z1)) ∧ w'.cell? ⟨w7.heap.size, 1, none⟩ = some (.int .i64 1))
        (first | exact two_cells S7.out.drew1 P7.out.drew1 | exact two_cells (S7.out.drew1.next b8) (P7.out.drew1.next b8) | exact two_cells ((S7.out.drew1.next b8).next b9) ((P7.out.drew1.next b8).next b9) | exact two_cells (((S7.out.drew1.next b8).next b9).next b10) (((P7.out.drew1.next b8).next b9).next b10))
        (first
          | (go_at_call 13; (with_reducible refine (wakes_any _ HKd).mono ?_); rintro e w8 ⟨rfl, b8⟩)
          | (go_at_call 16; first | ((with_reducible refine (O3 _).mono ?_); rintro e w9 ⟨rfl, b9⟩) | ((with_reducible refine (O4 _).mono ?_); rintro e w10 ⟨rfl, b10⟩)))
      have HB := on (on (on HB7.out.drew b8) b9) b10
      go_wp2
      go_ret
      exact ⟨rfl, HB⟩

/-! ### the row -/
open Go.ChangeShapes Go.WideShapes Go.ChangeAt
theorem lifted (os : Os) (started : os.Started) (H : Type) (enc : TypeId × Value → H) :
    ReturnsInHanded {} Tryd.checked os 7 .any (fun w args => (Rows.ratioBackSpec.pre enc Tryd.prog Tryd.f7 [] false w args ∧ laidMetH Tryd.prog laidL w) ∧ sizedMet enc Tryd.prog Tryd.f7 (OpenSpec.ofChange Rows.ratioBackSpec) false w args)
      (Rows.ratioBackSpec.post enc Tryd.prog Tryd.f7 false true false false) := by
  refine returnsInHanded_of_change_and (C := Tryd.checked) (X := fun w _ => laidMetH Tryd.prog laidL w) (fun _ _ _ hh h => h.of_heap hh) own started (by kernel_rfl) Tryd.func7
    (ChangeSpec.witness_shaped (enc := enc) (C := Tryd.checked) (os := os) (X := fun w _ => laidMetH Tryd.prog laidL w) false (World.doorLaid Tryd.prog 400 os) #[.agg #[.int .i64 0, .int .i64 0], .agg #[.int .i64 0, .int .i64 0], .agg #[.int .i32 0, .int .i32 0]] 8 rfl (World.shaped_of_RefB (by kernel_rfl) (by kernel_rfl)) (by kernel_rfl) (by kernel_rfl) (by kernel_rfl) (door_met os _)) ?_
  intro W base args ds gs before hval0 hW _ hsz0 hL _
  have hval : ∀ (j : Nat) t v, Tryd.f7.params[j]? = some t → args[j]? = some v → Value.okWide Tryd.prog W .any base t v := hval0
  have hW' := hW
  obtain ⟨p, q, hA0, hV, rfl, hfz, hnd⟩ := hW
  have hA : DataW.TrodAll enc Tryd.prog W 0 (fun _ => true) true Tryd.f7.params.toList args.toList ds p := hA0
  rw [Tryd.params7] at hA hval
  obtain ⟨v0, vs0, d0, ds0, p0, q0, hargs, rfl, rfl, h0, r0⟩ := trodAll_cons hA
  obtain ⟨v1, vs1, d1, ds1, p1, q1, rfl, rfl, rfl, h1, r1⟩ := trodAll_cons r0
  obtain ⟨v2, vs2, d2, ds2, p2, q2, rfl, rfl, rfl, h2, r2⟩ := trodAll_cons r1
  obtain ⟨rfl, rfl, rfl⟩ := trodAll_nil r2
  obtain rfl : args = #[v0, v1, v2] := by cases args; simp_all
  obtain ⟨rfl, rfl⟩ := trodVars_none hV
  have k0 := h0
  have lt0 : ∀ x ∈ p0, x.block < W.heap.size := by obtain ⟨m, hm⟩ := k0; exact DataW.trod_lt m _ _ _ hm
  obtain ⟨a0, b0, wa0, wb0, rfl⟩ := open_pair (hval 0 31 v0 rfl rfl) h0
  have k1 := h1
  have lt1 : ∀ x ∈ p1, x.block < W.heap.size := by obtain ⟨m, hm⟩ := k1; exact DataW.trod_lt m _ _ _ hm
  obtain ⟨a1, b1, wa1, wb1, rfl⟩ := open_pair (hval 1 31 v1 rfl rfl) h1
  have k2 := h2
  have lt2 : ∀ x ∈ p2, x.block < W.heap.size := by obtain ⟨m, hm⟩ := k2; exact DataW.trod_lt m _ _ _ hm
  obtain ⟨a2, b2, wa2, wb2, rfl⟩ := open_pair32 (hval 2 49 v2 rfl rfl) h2
  clear hA0 hval0
  refine (walk a0 b0 a1 b1 a2 b2 wa0 wb0 wa1 wb1 wa2 wb2 W (libOk_of_laid hL)).mono fun e W' ⟨he, bel⟩ => ?_
  subst he
  exact ⟨_, rfl, _, _, _, [], _, [], hW', trodAll_mk1 (shut_bool Tryd.underlying4 _), (trodAll_cons_mk (Below.trod laidOut (by kernel_rfl) (of_decide_eq_true (by kernel_rfl)) k0 bel lt0) (trodAll_cons_mk (Below.trod laidOut (by kernel_rfl) (of_decide_eq_true (by kernel_rfl)) k1 bel lt1) (trodAll_cons_mk (Below.trod laidOut (by kernel_rfl) (of_decide_eq_true (by kernel_rfl)) k2 bel lt2) trodAll_mk0))), rfl, bel.frame _, fun h => by cases h⟩

theorem over : Rows.ratioBackRow.holds Tryd.pinned (OpenSpec.ofChange Rows.ratioBackSpec) :=
  OpenClaim.holds_of_wide 7 Tryd.f7 rfl rfl rfl rfl rfl rfl rfl ⟨rfl, rfl, rfl, rfl, rfl⟩ rfl rfl rfl rfl rfl (by kernel_rfl) Tryd.func7 (by kernel_rfl)
    (of_decide_eq_true (by kernel_rfl)) (by unfold Func.isWrapper; first | (rw [if_pos (by decide +kernel)]; kernel_rfl) | (rw [if_neg (by decide +kernel)]; exact ⟨rfl, rfl⟩))
    (fun os started H enc _ => lifted os started H enc)

theorem card : Rows.RatioBackCardSaid :=
  Claim7.holds_tied_plain_at .later [] [.data, .data, .data, .sentinel, .sentinel] true _ true
    over (fun _ h => by cases h) (by kernel_rfl) (fun _ h => by cases h) ratioBack_row_tie rfl ⟨rfl, rfl⟩ (by kernel_rfl) rfl
    (fun f fn hf hfn => by
      obtain rfl : f = 7 := Option.some.inj ((show Tryd.prog.funcNamed Rows.ratioBackRow.func = some 7 by kernel_rfl).symm.trans hf) |>.symm
      obtain rfl : fn = Tryd.f7 := (Option.some.inj (Tryd.func7.symm.trans hfn)).symm
      exact ⟨by kernel_rfl, fun j t ht => by
        rw [Tryd.params7] at ht
        have hm : t ∈ [31, 31, 49] := by simpa using Array.mem_of_getElem? ht
        have hall : ([31, 31, 49].all fun u => !Tryd.prog.wantsStandIn u) = true := by kernel_rfl
        exact (show Tryd.prog.wantsStandIn t = false by simpa using List.all_eq_true.1 hall t hm)⟩)
    (by kernel_rfl)

end Go.Proofs.YtjaabjehegcnaaaDoor.ratioBack
namespace Go.Proofs.YtjaabjehegcnaaaDoor
theorem ratioBack_holds : Rows.RatioBackCardSaid := ratioBack.card
#print axioms ratioBack_holds
end Go.Proofs.YtjaabjehegcnaaaDoor
