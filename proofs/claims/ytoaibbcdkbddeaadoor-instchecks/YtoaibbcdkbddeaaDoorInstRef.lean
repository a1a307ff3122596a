/-
  What the document's numbers does (layer 9).
-/
import Derived.Test.YtoaibbcdkbddeaaDoorInstCheck
namespace Go.Proofs.YtoaibbcdkbddeaaDoor
set_option maxRecDepth 100000
open Go.RowKit

theorem out_amt (x : Int) (w : World) : Calls Tryd.prog 38 #[.int .i64 x, .int .i64 0, .int .i64 2147483648] w fun e w' => e = .returned (.bool (!(amt x))) ∧ w' = w := out_any x 0 2147483648 w
theorem out_mag (x : Int) (w : World) : Calls Tryd.prog 38 #[.int .i64 x, .int .i64 (-2147483648), .int .i64 2147483648] w fun e w' => e = .returned (.bool (!(mag x))) ∧ w' = w := out_any x (-2147483648) 2147483648 w
theorem b_two (b v u R T : Bool) (h : (!b && ((v && u) && R)) = T) : (!(b || !v || !u) && R) = T := by rw [← h]; cases b <;> cases v <;> cases u <;> rfl
theorem b_one (b v R T : Bool) (h : (!b && (v && R)) = T) : (!(b || !v) && R) = T := by rw [← h]; cases b <;> cases v <;> rfl

set_option maxHeartbeats 8000000 in
theorem numbers_any (F G : Nat → Prop) (I : In) (vi vc vs : Value) (uc us : List Value) (w : World) (hi : Its F w vi I.items) (hc : Rws F G w vc I.cost uc) (hs : Sts F G w vs I.sets us) :
    Calls Tryd.prog 24 #[inV I vi vc vs] w fun e w' => e = .returned (.bool I.fine) ∧ Below w.heap.size w w' := by
  obtain ⟨A0, C0, rfl, hC0, hM0⟩ := hi.form
  obtain ⟨A, C, rfl, hC, hM⟩ := hc.form
  obtain ⟨A2, C2, rfl, hC2, hM2⟩ := hs.form
  unfold maxLen at hM hM2 hM0
  have nb := new_below w (.cells #[.int .i64 I.kind, .int .i64 I.cap, .slice A0 I.items.length C0, .slice A I.cost.length C, .int .i64 I.size, .slice A2 I.sets.length C2] 36)
  have HI := Lib.hid (hi.next nb)
  have HC := Lib.hid (hc.next nb)
  have HS := Lib.hid (hs.next nb)
  have HB := Lib.hid nb
  have HX := Lib.hid (ibox_new w (.int .i64 I.kind) (.int .i64 I.cap) (.slice A0 I.items.length C0) (.slice A I.cost.length C) (.int .i64 I.size) (.slice A2 I.sets.length C2) 36)
  clear hi hc hs nb
  have OA := fun x W => out_amt x W
  have OM := fun x W => out_mag x W
  unfold inV
  rw [fine_eq]
  obtain ⟨T, hT⟩ : ∃ T, (amt I.cap && (itemsOk I.items && (costOk I.cost && setsOk I.sets))) = T := ⟨_, rfl⟩
  rw [hT]
  have HT := Lib.hid hT
  clear hT
  go_enter Tryd.func24, Tryd.ntmps24
  go_wp2_with fail
  with_reducible refine (OA _ _).mono ?_
  rintro e w1 ⟨rfl, hw1⟩
  rw [← hw1] at HI HC HS HB HX
  clear hw1
  generalize hb0 : (!amt I.cap) = b0
  have HQ0 : Hid ((!b0 && (itemsOk I.items && (costOk I.cost && setsOk I.sets))) = T) := by show _ = _; rw [← hb0, Bool.not_not]; exact HT.out
  clear hb0
  go_wp2
  go_loopw [3, 4] (fun bv i wr => ∃ (k : Nat) (b : Bool), k ≤ I.items.length ∧ bv = .bool b ∧ i = .int .i64 (k : Nat) ∧ wr = w1 ∧ Hid ((!b && (itemsOk (I.items.drop k) && (costOk I.cost && setsOk I.sets))) = T)) (fun _ i _ => I.items.length - (intOf i).toNat)
  case atStart => exact ⟨0, b0, by omega, rfl, rfl, rfl, HQ0⟩
  case round =>
    obtain ⟨k, b, hk, rfl, rfl, rfl, hQ⟩ := hrel
    obtain ⟨x0, x1, x2, x3, x4, x5⟩ := HX.out
    by_cases hlt : k < I.items.length
    · obtain ⟨bb, off, p, rfl, _, hb, hp, c0, c1⟩ := HI.out.get hlt
      have hq := hQ.out
      rw [itemsOk_drop hp, Bool.and_assoc] at hq
      have HR := Lib.hid (b_two b (amt p.1) (amt p.2) _ T (by rw [← hq, Bool.and_assoc]))
      have c01 : (0 : Int) ≤ (k : Int) := by omega
      have c02 : (k : Int) < (I.items.length : Int) := by omega
      clear hQ hq hp
      go_wp2_with fail
      with_reducible refine (OA _ _).mono ?_
      rintro e w3 ⟨rfl, hw3⟩
      obtain rfl := hw3.symm
      generalize (!amt p.1) = v1 at HR ⊢
      go_wp2_with fail
      with_reducible refine (OA _ _).mono ?_
      rintro e w3 ⟨rfl, hw3⟩
      obtain rfl := hw3.symm
      generalize (!amt p.2) = v2 at HR ⊢
      cases b <;> cases v1 <;> cases v2
      all_goals
        go_wp2
        go_roundw
        case rel => exact ⟨k + 1, _, by omega, rfl, by go_num, trivial, HR⟩
        case measure => simp [intOf]; omega
    · obtain rfl : k = I.items.length := by omega
      have hq := hQ.out
      rw [itemsOk_done, Bool.true_and] at hq
      have HQ1 := Lib.hid hq
      clear hq hQ HT HQ0
      go_wp2
      obtain ⟨w2, hw2⟩ : ∃ q, q = wr := ⟨wr, rfl⟩
      subst hw2
      clear x0 x1 x2 x3 x4 x5
      go_loopw [3, 7] (fun bv i wr => ∃ (k : Nat) (b : Bool), k ≤ I.cost.length ∧ bv = .bool b ∧ i = .int .i64 (k : Nat) ∧ wr = w2 ∧ Hid ((!b && (costOk (I.cost.drop k) && setsOk I.sets)) = T)) (fun _ i _ => I.cost.length - (intOf i).toNat)
      case atStart => exact ⟨0, b, by omega, rfl, rfl, rfl, HQ1⟩
      case round =>
        obtain ⟨k, b, hk, rfl, rfl, rfl, hQ⟩ := hrel
        obtain ⟨x0, x1, x2, x3, x4, x5⟩ := HX.out
        by_cases hlt : k < I.cost.length
        · obtain ⟨bb, off, r, A', C', rfl, _, hb, hr, c0, _, hC', hM', hI⟩ := HC.out.get hlt
          have hq := hQ.out
          rw [costOk_drop hr, Bool.and_assoc] at hq
          have HQ2 := Lib.hid hq
          have HII := Lib.hid hI
          have HC0 := Lib.hid c0
          have c01 : (0 : Int) ≤ (k : Int) := by omega
          have c02 : (k : Int) < (I.cost.length : Int) := by omega
          unfold maxLen at hM'
          clear hQ hq hr hI
          go_wp2
          obtain ⟨w3, hw3⟩ : ∃ q, q = wr := ⟨wr, rfl⟩
          subst hw3
          clear x0 x1 x2 x3 x4 x5 c0
          go_loopw [3, 8] (fun bv i wr => ∃ (j : Nat) (b : Bool), j ≤ r.length ∧ bv = .bool b ∧ i = .int .i64 (j : Nat) ∧ wr = w3 ∧ Hid ((!b && ((r.drop j).all mag && (costOk (I.cost.drop (k + 1)) && setsOk I.sets))) = T)) (fun _ i _ => r.length - (intOf i).toNat)
          case atStart => exact ⟨0, b, by omega, rfl, rfl, rfl, HQ2⟩
          case round =>
            obtain ⟨j, b, hj, rfl, rfl, rfl, hQ⟩ := hrel
            obtain ⟨x0, x1, x2, x3, x4, x5⟩ := HX.out
            have c0 := HC0.out
            by_cases hlj : j < r.length
            · obtain ⟨b', off', x, rfl, _, hb', hx, c1⟩ := HII.out.get hlj
              have hq := hQ.out
              rw [all_drop hx, Bool.and_assoc] at hq
              have HR := Lib.hid (b_one b (mag x) _ T hq)
              have d01 : (0 : Int) ≤ (j : Int) := by omega
              have d02 : (j : Int) < (r.length : Int) := by omega
              clear hQ hq hx
              go_wp2_with fail
              with_reducible refine (OM _ _).mono ?_
              rintro e w4 ⟨rfl, hw4⟩
              obtain rfl := hw4.symm
              generalize (!mag x) = v1 at HR ⊢
              cases b <;> cases v1
              all_goals
                go_wp2
                go_roundw
                case rel => exact ⟨j + 1, _, by omega, rfl, by go_num, trivial, HR⟩
                case measure => simp [intOf]; omega
            · obtain rfl : j = r.length := by omega
              have hq := hQ.out
              rw [all_done, Bool.true_and] at hq
              have HR := Lib.hid hq
              clear hq hQ
              go_wp2
              go_roundw
              case rel => exact ⟨k + 1, _, by omega, rfl, by go_num, trivial, HR⟩
              case measure => simp [intOf]; omega
        · obtain rfl : k = I.cost.length := by omega
          have hq := hQ.out
          rw [costOk_done, Bool.true_and] at hq
          have HQ2 := Lib.hid hq
          clear hq hQ HQ1
          go_wp2
          obtain ⟨w3, hw3⟩ : ∃ q, q = wr := ⟨wr, rfl⟩
          subst hw3
          clear x0 x1 x2 x3 x4 x5
          go_loopw [3, 10] (fun bv i wr => ∃ (k : Nat) (b : Bool), k ≤ I.sets.length ∧ bv = .bool b ∧ i = .int .i64 (k : Nat) ∧ wr = w3 ∧ Hid ((!b && setsOk (I.sets.drop k)) = T)) (fun _ i _ => I.sets.length - (intOf i).toNat)
          case atStart => exact ⟨0, b, by omega, rfl, rfl, rfl, HQ2⟩
          case round =>
            obtain ⟨k, b, hk, rfl, rfl, rfl, hQ⟩ := hrel
            obtain ⟨x0, x1, x2, x3, x4, x5⟩ := HX.out
            by_cases hlt : k < I.sets.length
            · obtain ⟨bb, off, s, A', C', rfl, _, hb, hs, c0, c1, _, hC', hM', hI⟩ := HS.out.get hlt
              have hq := hQ.out
              rw [setsOk_drop hs] at hq
              have HR := Lib.hid (b_one b (amt s.1) _ T hq)
              have c01 : (0 : Int) ≤ (k : Int) := by omega
              have c02 : (k : Int) < (I.sets.length : Int) := by omega
              clear hQ hq hI hs
              go_wp2_with fail
              with_reducible refine (OA _ _).mono ?_
              rintro e w4 ⟨rfl, hw4⟩
              obtain rfl := hw4.symm
              generalize (!amt s.1) = v1 at HR ⊢
              cases b <;> cases v1
              all_goals
                go_wp2
                go_roundw
                case rel => exact ⟨k + 1, _, by omega, rfl, by go_num, trivial, HR⟩
                case measure => simp [intOf]; omega
            · obtain rfl : k = I.sets.length := by omega
              have hq := hQ.out
              rw [setsOk_done, Bool.and_true] at hq
              have HR := Lib.hid hq
              clear hq hQ
              go_wp2
              go_ret
              exact ⟨by rw [← HR.out]; rfl, HB.out⟩
end Go.Proofs.YtoaibbcdkbddeaaDoor
