/-
  What the document's numbers does (layer 9).
-/
import Derived.Test.YtbadingdklenhaaGreatDoorInstCheck
namespace Go.Proofs.YtbadingdklenhaaGreatDoor
set_option maxRecDepth 100000
open Go.RowKit

theorem out_amt (x : Int) (w : World) : Calls Tryz.prog 74 #[.int .i64 x, .int .i64 0, .int .i64 2147483648] w fun e w' => e = .returned (.bool (!(amt x))) ∧ w' = w := out_any x 0 2147483648 w
theorem out_mag (x : Int) (w : World) : Calls Tryz.prog 74 #[.int .i64 x, .int .i64 (-2147483648), .int .i64 2147483648] w fun e w' => e = .returned (.bool (!(mag x))) ∧ w' = w := out_any x (-2147483648) 2147483648 w
theorem b_two (b v u R T : Bool) (h : (!b && ((v && u) && R)) = T) : (!(b || !v || !u) && R) = T := by rw [← h]; cases b <;> cases v <;> cases u <;> rfl
theorem b_one (b v R T : Bool) (h : (!b && (v && R)) = T) : (!(b || !v) && R) = T := by rw [← h]; cases b <;> cases v <;> rfl

set_option maxHeartbeats 8000000 in
theorem numbers_any (F G : Nat → Prop) (I : In) (vi vc vs : Value) (uc us : List Value) (w : World) (hi : Its F w vi I.items) (hc : Rws F G w vc I.cost uc) (hs : Sts F G w vs I.sets us) :
    Calls Tryz.prog 52 #[inV I vi vc vs] w fun e w' => e = .returned (.bool I.fine) ∧ Below w.heap.size w w' := by
  obtain ⟨A0, C0, rfl, hC0, hM0⟩ := hi.form
  obtain ⟨A, C, rfl, hC, hM⟩ := hc.form
  obtain ⟨A2, C2, rfl, hC2, hM2⟩ := hs.form
  unfold maxLen at hM hM2 hM0
  have nb := new_below w (.cells #[.int .i64 I.kind, .int .i64 I.cap, .slice A0 I.items.length C0, .slice A I.cost.length C, .int .i64 I.size, .slice A2 I.sets.length C2] 36)
  have HI := Lib.hid (hi.next nb)
  have HC := Lib.hid (hc.next nb)
  have HS := Lib.hid (hs.next nb)
  have HB := Lib.hid nb
  have HX := Lib.hid (ibox_new w (.int .i64 I.kind) (.int .i64 I.cap) (.slice A0 I.items.length C0) (.slice A I.cost.length C) (.int .i64 I.size) (.slice A2 I.sets.length C2) 36)
  clear hi hc hs nb
  have OA := fun x W => out_amt x W
  have OM := fun x W => out_mag x W
  unfold inV
  rw [fine_eq]
  obtain ⟨T, hT⟩ : ∃ T, (amt I.cap && (itemsOk I.items && (costOk I.cost && setsOk I.sets))) = T := ⟨_, rfl⟩
  rw [hT]
  have HT := Lib.hid hT
  clear hT
  go_enter Tryz.func52, Tryz.ntmps52
  go_wp2_with fail
  with_reducible refine (OA _ _).mono ?_
  rintro e w1 ⟨rfl, hw1⟩
  rw [← hw1] at HI HC HS HB HX
  clear hw1
  generalize hb0 : (!amt I.cap) = b0
  have HQ0 : Hid ((!b0 && (itemsOk I.items && (costOk I.cost && setsOk I.sets))) = T) := by show _ = _; rw [← hb0, Bool.not_not]; exact HT.out
  clear hb0
  go_wp2
  go_loopw [3, 4] (fun bv i wr => ∃ (k : Nat) (b : Bool), k ≤ I.items.length ∧ bv = .bool b ∧ i = .int .i64 (k : Nat) ∧ wr = w1 ∧ Hid ((!b && (itemsOk (I.items.drop k) && (costOk I.cost && setsOk I.sets))) = T)) (fun _ i _ => I.items.length - (intOf i).toNat)
  case atStart => exact ⟨0, b0, by omega, rfl, rfl, rfl, HQ0⟩
  case round =>
    obtain ⟨k, b, hk, rfl, rfl, rfl, hQ⟩ := hrel
    obtain ⟨x0, x1, x2, x3, x4, x5⟩ := HX.out
    by_cases hlt : k < I.items.length
    · obtain ⟨bb, off, p, rfl, _, hb, hp, c0, c1⟩ := HI.out.get hlt
      have hq := hQ.out
      rw [itemsOk_drop hp, Bool.and_assoc] at hq
      have HR := Lib.hid (b_two b (amt p.1) (amt p.2) _ T (by rw [← hq, Bool.and_assoc]))
      have c01 : (0 : Int) ≤ (k : Int) := by omega
      have c02 : (k : Int) < (I.items.length : Int) := by omega
      clear hQ hq hp
      go_wp2_with fail
      with_reducible refine (OA _ _).mono ?_
      rintro e w3 ⟨rfl, hw3⟩
      obtain rfl := hw3.symm
      generalize (!amt p.1) = v1 at HR ⊢
      go_wp2_with fail
      with_reducible refine (OA _ _).mono ?_
      rintro e w3 ⟨rfl, hw3⟩
      obtain rfl := hw3.symm
      generalize (!amt p.2) = v2 at HR ⊢
      cases b <;> cases v1 <;> cases v2
      all_goals
        go_wp2
        go_roundw
        case rel => exact ⟨k + 1, _, by omega, rfl, by go_num, trivial, HR⟩
        case measure => simp [intOf]; omega
    · obtain rfl : k = I.items.length := by omega
      have hq := hQ.out
      rw [itemsOk_done, Bool.true_and] at hq
      have HQ1 := Lib.hid hq
      clear hq hQ HT HQ0
      go_wp2
      obtain ⟨w2, hw2⟩ : ∃ q, q = wr := ⟨wr, rfl⟩
      subst hw2
      clear x0 x1 x2 x3 x4 x5
      go_loopw [3, 7] (fun bv i wr => ∃ (k : Nat) (b : Bool), k ≤ I.cost.length ∧ bv = .bool b ∧ i = .int .i64 (k : Nat) ∧ wr = w2 ∧ Hid ((!b && (costOk (I.cost.drop k) && setsOk I.sets)) = T)) (fun _ i _ => I.cost.length - (intOf i).toNat)
      case atStart => exact ⟨0, b, by omega, rfl, rfl, rfl, HQ1⟩
      case round =>
        obtain ⟨k, b, hk, rfl, rfl, rfl, hQ⟩ := hrel
        obtain ⟨x0, x1, x2, x3, x4, x5⟩ := HX.out
        by_cases hlt : k < I.cost.length
        · obtain ⟨bb, off, r, A', C', rfl, _, hb, hr, c0, _, hC', hM', hI⟩ := HC.out.get hlt
          have hq := hQ.out
          rw [costOk_drop hr, Bool.and_assoc] at hq
          have HQ2 := Lib.hid hq
          have HII := Lib.hid hI
          have HC0 := Lib.hid c0
          have c01 : (0 : Int) ≤ (k : Int) := by omega
          have c02 : (k : Int) < (I.cost.length : Int) := by omega
          unfold maxLen at hM'
          clear hQ hq hr hI
          go_wp2
          obtain ⟨w3, hw3⟩ : ∃ q, q = wr := ⟨wr, rfl⟩
          subst hw3
          clear x0 x1 x2 x3 x4 x5 c0
          go_loopw [3, 8] (fun bv i wr => ∃ (j : Nat) (b : Bool), j ≤ r.length ∧ bv = .bool b ∧ i = .int .i64 (j : Nat) ∧ wr = w3 ∧ Hid ((!b && ((r.drop j).all mag && (costOk (I.cost.drop (k + 1)) && setsOk I.sets))) = T)) (fun _ i _ => r.length - (intOf i).toNat)
          case atStart => exact ⟨0, b, by omega, rfl, rfl, rfl, HQ2⟩
          case round =>
            obtain ⟨j, b, hj, rfl, rfl, rfl, hQ⟩ := hrel
            obtain ⟨x0, x1, x2, x3, x4, x5⟩ := HX.out
            have c0 := HC0.out
            by_cases hlj : j < r.length
            · obtain ⟨b', off', x, rfl, _, hb', hx, c1⟩ := HII.out.get hlj
              have hq := hQ.out
              rw [all_drop hx, Bool.and_assoc] at hq
              have HR := Lib.hid (b_one b (mag x) _ T hq)
              have d01 : (0 : Int) ≤ (j : Int) := by omega
              have d02 : (j : Int) < (r.length : Int) := by omega
              clear hQ hq hx
              go_wp2_with fail
              with_reducible refine (OM _ _).mono ?_
              rintro e w4 ⟨rfl, hw4⟩
              obtain rfl := hw4.symm
              generalize (!mag x) = v1 at HR ⊢
              cases b <;> cases v1
              all_goals
                go_wp2
                go_roundw
                case rel => exact ⟨j + 1, _, by omega, rfl, by go_num, trivial, HR⟩
                case measure => simp [intOf]; omega
            · obtain rfl : j = r.length := by omega
              have hq := hQ.out
              rw [all_done, Bool.true_and] at hq
              have HR := Lib.hid hq
              clear hq hQ
              go_wp2
              go_roundw
              case rel => exact ⟨k + 1, _, by omega, rfl, by go_num, trivial, HR⟩
              case measure => simp [intOf]; omega
        · obtain rfl : k = I.cost.length := by omega
          have hq := hQ.out
          rw [costOk_done, Bool.true_and] at hq
          have HQ2 := Lib.hid hq
          clear hq hQ HQ1
          go_wp2
          obtain ⟨w3, hw3⟩ : ∃ q, q = wr := ⟨wr, rfl⟩
          subst hw3
          clear x0 x1 x2 x3 x4 x5
          go_loopw [3, 10] (fun bv i wr => ∃ (k : Nat) (b : Bool), k ≤ I.sets.length ∧ bv = .bool b ∧ i = .int .i64 (k : Nat) ∧ wr = w3 ∧ Hid ((!b && setsOk (I.sets.drop k)) = T)) (fun _ i _ => I.sets.length - (intOf i).toNat)
          case atStart => exact ⟨0, b, by omega, rfl, rfl, rfl, HQ2⟩
          case round =>
            obtain ⟨k, b, hk, rfl, rfl, rfl, hQ⟩ := hrel
            obtain ⟨x0, x1, x2, x3, x4, x5⟩ := HX.out
            by_cases hlt : k < I.sets.length
            · obtain ⟨bb, off, s, A', C', rfl, _, hb, hs, c0, c1, _, hC', hM', hI⟩ := HS.out.get hlt
              have hq := hQ.out
              rw [setsOk_drop hs] at hq
              have HR := Lib.hid (b_one b (amt s.1) _ T hq)
              have c01 : (0 : Int) ≤ (k : Int) := by omega
              have c02 : (k : Int) < (I.sets.length : Int) := by omega
              clear hQ hq hI hs
              go_wp2_with fail
              with_reducible refine (OA _ _).mono ?_
              rintro e w4 ⟨rfl, hw4⟩
              obtain rfl := hw4.symm
              generalize (!amt s.1) = v1 at HR ⊢
              cases b <;> cases v1
              all_goals
                go_wp2
                go_roundw
                case rel => exact ⟨k + 1, _, by omega, rfl, by go_num, trivial, HR⟩
                case measure => simp [intOf]; omega
            · obtain rfl : k = I.sets.length := by omega
              have hq := hQ.out
              rw [setsOk_done, Bool.and_true] at hq
              have HR := Lib.hid hq
              clear hq hQ
              go_wp2
              go_ret
              exact ⟨by rw [← HR.out]; rfl, HB.out⟩
end Go.Proofs.YtbadingdklenhaaGreatDoor

/-
  The document's Check (layer 9): where it ends early. Written by tools/genrefcheck.py.
-/
namespace Go.Proofs.YtbadingdklenhaaGreatDoor
set_option maxRecDepth 100000
open Go.RowKit

theorem rc_neg (K cap size : Int) (n1 n2 n3 k1 k2 k3 : Nat) (a1 a2 a3 : Option Addr) (w : World) (h0 : K < 0) :
    Calls Tryz.prog 25 #[.agg #[.int .i64 K, .int .i64 cap, .slice a1 n1 k1, .slice a2 n2 k2, .int .i64 size, .slice a3 n3 k3]] w fun e w' => e = .returned (.int .i64 25) ∧ Below w.heap.size w w' := by
  go_enter Tryz.func25, Tryz.ntmps25
  go_wp2
  go_ret
  exact ⟨rfl, new_below _ _⟩

theorem rc_big (K cap size : Int) (n1 n2 n3 k1 k2 k3 : Nat) (a1 a2 a3 : Option Addr) (w : World) (h0 : ¬ K < 0) (h1 : 3 < K) :
    Calls Tryz.prog 25 #[.agg #[.int .i64 K, .int .i64 cap, .slice a1 n1 k1, .slice a2 n2 k2, .int .i64 size, .slice a3 n3 k3]] w fun e w' => e = .returned (.int .i64 25) ∧ Below w.heap.size w w' := by
  go_enter Tryz.func25, Tryz.ntmps25
  go_wp2
  go_ret
  exact ⟨rfl, new_below _ _⟩

theorem rc_k0a (cap size : Int) (n1 n2 n3 k1 k2 k3 : Nat) (a1 a2 a3 : Option Addr) (w : World) (p0 : (0 : Int) < (n2 : Int)) :
    Calls Tryz.prog 25 #[.agg #[.int .i64 0, .int .i64 cap, .slice a1 n1 k1, .slice a2 n2 k2, .int .i64 size, .slice a3 n3 k3]] w fun e w' => e = .returned (.int .i64 4) ∧ Below w.heap.size w w' := by
  go_enter Tryz.func25, Tryz.ntmps25
  go_wp2
  go_ret
  exact ⟨rfl, new_below _ _⟩

theorem rc_k0b (cap size : Int) (n1 n3 k1 k2 k3 : Nat) (a1 a2 a3 : Option Addr) (w : World) (p2 : ¬ size = 0) :
    Calls Tryz.prog 25 #[.agg #[.int .i64 0, .int .i64 cap, .slice a1 n1 k1, .slice a2 0 k2, .int .i64 size, .slice a3 n3 k3]] w fun e w' => e = .returned (.int .i64 4) ∧ Below w.heap.size w w' := by
  go_enter Tryz.func25, Tryz.ntmps25
  go_wp2
  go_ret
  exact ⟨rfl, new_below _ _⟩

theorem rc_k0c (cap : Int) (n1 n3 k1 k2 k3 : Nat) (a1 a2 a3 : Option Addr) (w : World) (p0 : (0 : Int) < (n3 : Int)) :
    Calls Tryz.prog 25 #[.agg #[.int .i64 0, .int .i64 cap, .slice a1 n1 k1, .slice a2 0 k2, .int .i64 0, .slice a3 n3 k3]] w fun e w' => e = .returned (.int .i64 4) ∧ Below w.heap.size w w' := by
  go_enter Tryz.func25, Tryz.ntmps25
  go_wp2
  go_ret
  exact ⟨rfl, new_below _ _⟩

theorem rc_k0d (cap : Int) (n1 k1 k2 k3 : Nat) (a1 a2 a3 : Option Addr) (w : World) (p0 : (4096 : Int) < (n1 : Int)) :
    Calls Tryz.prog 25 #[.agg #[.int .i64 0, .int .i64 cap, .slice a1 n1 k1, .slice a2 0 k2, .int .i64 0, .slice a3 0 k3]] w fun e w' => e = .returned (.int .i64 22) ∧ Below w.heap.size w w' := by
  go_enter Tryz.func25, Tryz.ntmps25
  go_wp2
  go_ret
  exact ⟨rfl, new_below _ _⟩

theorem rc_k3a (cap size : Int) (n1 n2 n3 k1 k2 k3 : Nat) (a1 a2 a3 : Option Addr) (w : World) (p0 : ¬ cap = 0) :
    Calls Tryz.prog 25 #[.agg #[.int .i64 3, .int .i64 cap, .slice a1 n1 k1, .slice a2 n2 k2, .int .i64 size, .slice a3 n3 k3]] w fun e w' => e = .returned (.int .i64 4) ∧ Below w.heap.size w w' := by
  go_enter Tryz.func25, Tryz.ntmps25
  go_wp2
  go_ret
  exact ⟨rfl, new_below _ _⟩

theorem rc_k3b (size : Int) (n1 n2 n3 k1 k2 k3 : Nat) (a1 a2 a3 : Option Addr) (w : World) (p0 : (0 : Int) < (n1 : Int)) :
    Calls Tryz.prog 25 #[.agg #[.int .i64 3, .int .i64 0, .slice a1 n1 k1, .slice a2 n2 k2, .int .i64 size, .slice a3 n3 k3]] w fun e w' => e = .returned (.int .i64 4) ∧ Below w.heap.size w w' := by
  go_enter Tryz.func25, Tryz.ntmps25
  go_wp2
  go_ret
  exact ⟨rfl, new_below _ _⟩

theorem rc_k3c (size : Int) (n2 n3 k1 k2 k3 : Nat) (a1 a2 a3 : Option Addr) (w : World) (p0 : (0 : Int) < (n2 : Int)) :
    Calls Tryz.prog 25 #[.agg #[.int .i64 3, .int .i64 0, .slice a1 0 k1, .slice a2 n2 k2, .int .i64 size, .slice a3 n3 k3]] w fun e w' => e = .returned (.int .i64 4) ∧ Below w.heap.size w w' := by
  go_enter Tryz.func25, Tryz.ntmps25
  go_wp2
  go_ret
  exact ⟨rfl, new_below _ _⟩

theorem rc_k3d (size : Int) (n3 k1 k2 k3 : Nat) (a1 a2 a3 : Option Addr) (w : World) (p0 : (4096 : Int) < (n3 : Int)) :
    Calls Tryz.prog 25 #[.agg #[.int .i64 3, .int .i64 0, .slice a1 0 k1, .slice a2 0 k2, .int .i64 size, .slice a3 n3 k3]] w fun e w' => e = .returned (.int .i64 22) ∧ Below w.heap.size w w' := by
  go_enter Tryz.func25, Tryz.ntmps25
  go_wp2
  go_ret
  exact ⟨rfl, new_below _ _⟩

theorem rc_k3e (size : Int) (n3 k1 k2 k3 : Nat) (a1 a2 a3 : Option Addr) (w : World) (p0 : ¬ (4096 : Int) < (n3 : Int)) (p1 : size < 0) :
    Calls Tryz.prog 25 #[.agg #[.int .i64 3, .int .i64 0, .slice a1 0 k1, .slice a2 0 k2, .int .i64 size, .slice a3 n3 k3]] w fun e w' => e = .returned (.int .i64 22) ∧ Below w.heap.size w w' := by
  go_enter Tryz.func25, Tryz.ntmps25
  go_wp2
  go_ret
  exact ⟨rfl, new_below _ _⟩

theorem rc_k3f (size : Int) (n3 k1 k2 k3 : Nat) (a1 a2 a3 : Option Addr) (w : World) (p0 : ¬ (4096 : Int) < (n3 : Int)) (p1 : ¬ size < 0) (p2 : 4096 < size) :
    Calls Tryz.prog 25 #[.agg #[.int .i64 3, .int .i64 0, .slice a1 0 k1, .slice a2 0 k2, .int .i64 size, .slice a3 n3 k3]] w fun e w' => e = .returned (.int .i64 22) ∧ Below w.heap.size w w' := by
  go_enter Tryz.func25, Tryz.ntmps25
  go_wp2
  go_ret
  exact ⟨rfl, new_below _ _⟩

theorem rc_k1a (cap size : Int) (n1 n2 n3 k1 k2 k3 : Nat) (a1 a2 a3 : Option Addr) (w : World) (p0 : ¬ cap = 0) :
    Calls Tryz.prog 25 #[.agg #[.int .i64 1, .int .i64 cap, .slice a1 n1 k1, .slice a2 n2 k2, .int .i64 size, .slice a3 n3 k3]] w fun e w' => e = .returned (.int .i64 4) ∧ Below w.heap.size w w' := by
  go_enter Tryz.func25, Tryz.ntmps25
  go_wp2
  go_ret
  exact ⟨rfl, new_below _ _⟩

theorem rc_k1b (size : Int) (n1 n2 n3 k1 k2 k3 : Nat) (a1 a2 a3 : Option Addr) (w : World) (p0 : (0 : Int) < (n1 : Int)) :
    Calls Tryz.prog 25 #[.agg #[.int .i64 1, .int .i64 0, .slice a1 n1 k1, .slice a2 n2 k2, .int .i64 size, .slice a3 n3 k3]] w fun e w' => e = .returned (.int .i64 4) ∧ Below w.heap.size w w' := by
  go_enter Tryz.func25, Tryz.ntmps25
  go_wp2
  go_ret
  exact ⟨rfl, new_below _ _⟩

theorem rc_k1c (size : Int) (n2 n3 k1 k2 k3 : Nat) (a1 a2 a3 : Option Addr) (w : World) (p2 : ¬ size = 0) :
    Calls Tryz.prog 25 #[.agg #[.int .i64 1, .int .i64 0, .slice a1 0 k1, .slice a2 n2 k2, .int .i64 size, .slice a3 n3 k3]] w fun e w' => e = .returned (.int .i64 4) ∧ Below w.heap.size w w' := by
  go_enter Tryz.func25, Tryz.ntmps25
  go_wp2
  go_ret
  exact ⟨rfl, new_below _ _⟩

theorem rc_k1d (n2 n3 k1 k2 k3 : Nat) (a1 a2 a3 : Option Addr) (w : World) (p0 : (0 : Int) < (n3 : Int)) :
    Calls Tryz.prog 25 #[.agg #[.int .i64 1, .int .i64 0, .slice a1 0 k1, .slice a2 n2 k2, .int .i64 0, .slice a3 n3 k3]] w fun e w' => e = .returned (.int .i64 4) ∧ Below w.heap.size w w' := by
  go_enter Tryz.func25, Tryz.ntmps25
  go_wp2
  go_ret
  exact ⟨rfl, new_below _ _⟩

theorem rc_k1e (n2 k1 k2 k3 : Nat) (a1 a2 a3 : Option Addr) (w : World) (p0 : (64 : Int) < (n2 : Int)) :
    Calls Tryz.prog 25 #[.agg #[.int .i64 1, .int .i64 0, .slice a1 0 k1, .slice a2 n2 k2, .int .i64 0, .slice a3 0 k3]] w fun e w' => e = .returned (.int .i64 22) ∧ Below w.heap.size w w' := by
  go_enter Tryz.func25, Tryz.ntmps25
  go_wp2
  go_ret
  exact ⟨rfl, new_below _ _⟩

theorem rc_k1f (k1 k2 k3 : Nat) (a1 a2 a3 : Option Addr) (w : World)  :
    Calls Tryz.prog 25 #[.agg #[.int .i64 1, .int .i64 0, .slice a1 0 k1, .slice a2 0 k2, .int .i64 0, .slice a3 0 k3]] w fun e w' => e = .returned (.int .i64 22) ∧ Below w.heap.size w w' := by
  go_enter Tryz.func25, Tryz.ntmps25
  go_wp2
  go_ret
  exact ⟨rfl, new_below _ _⟩

theorem rc_k2a (cap size : Int) (n1 n2 n3 k1 k2 k3 : Nat) (a1 a2 a3 : Option Addr) (w : World) (p0 : ¬ cap = 0) :
    Calls Tryz.prog 25 #[.agg #[.int .i64 2, .int .i64 cap, .slice a1 n1 k1, .slice a2 n2 k2, .int .i64 size, .slice a3 n3 k3]] w fun e w' => e = .returned (.int .i64 4) ∧ Below w.heap.size w w' := by
  go_enter Tryz.func25, Tryz.ntmps25
  go_wp2
  go_ret
  exact ⟨rfl, new_below _ _⟩

theorem rc_k2b (size : Int) (n1 n2 n3 k1 k2 k3 : Nat) (a1 a2 a3 : Option Addr) (w : World) (p0 : (0 : Int) < (n1 : Int)) :
    Calls Tryz.prog 25 #[.agg #[.int .i64 2, .int .i64 0, .slice a1 n1 k1, .slice a2 n2 k2, .int .i64 size, .slice a3 n3 k3]] w fun e w' => e = .returned (.int .i64 4) ∧ Below w.heap.size w w' := by
  go_enter Tryz.func25, Tryz.ntmps25
  go_wp2
  go_ret
  exact ⟨rfl, new_below _ _⟩

theorem rc_k2c (size : Int) (n2 n3 k1 k2 k3 : Nat) (a1 a2 a3 : Option Addr) (w : World) (p2 : ¬ size = 0) :
    Calls Tryz.prog 25 #[.agg #[.int .i64 2, .int .i64 0, .slice a1 0 k1, .slice a2 n2 k2, .int .i64 size, .slice a3 n3 k3]] w fun e w' => e = .returned (.int .i64 4) ∧ Below w.heap.size w w' := by
  go_enter Tryz.func25, Tryz.ntmps25
  go_wp2
  go_ret
  exact ⟨rfl, new_below _ _⟩

theorem rc_k2d (n2 n3 k1 k2 k3 : Nat) (a1 a2 a3 : Option Addr) (w : World) (p0 : (0 : Int) < (n3 : Int)) :
    Calls Tryz.prog 25 #[.agg #[.int .i64 2, .int .i64 0, .slice a1 0 k1, .slice a2 n2 k2, .int .i64 0, .slice a3 n3 k3]] w fun e w' => e = .returned (.int .i64 4) ∧ Below w.heap.size w w' := by
  go_enter Tryz.func25, Tryz.ntmps25
  go_wp2
  go_ret
  exact ⟨rfl, new_below _ _⟩

theorem rc_k2e (n2 k1 k2 k3 : Nat) (a1 a2 a3 : Option Addr) (w : World) (p0 : (64 : Int) < (n2 : Int)) :
    Calls Tryz.prog 25 #[.agg #[.int .i64 2, .int .i64 0, .slice a1 0 k1, .slice a2 n2 k2, .int .i64 0, .slice a3 0 k3]] w fun e w' => e = .returned (.int .i64 22) ∧ Below w.heap.size w w' := by
  go_enter Tryz.func25, Tryz.ntmps25
  go_wp2
  go_ret
  exact ⟨rfl, new_below _ _⟩

theorem rc_k2f (k1 k2 k3 : Nat) (a1 a2 a3 : Option Addr) (w : World)  :
    Calls Tryz.prog 25 #[.agg #[.int .i64 2, .int .i64 0, .slice a1 0 k1, .slice a2 0 k2, .int .i64 0, .slice a3 0 k3]] w fun e w' => e = .returned (.int .i64 22) ∧ Below w.heap.size w w' := by
  go_enter Tryz.func25, Tryz.ntmps25
  go_wp2
  go_ret
  exact ⟨rfl, new_below _ _⟩
end Go.Proofs.YtbadingdklenhaaGreatDoor

/-
  The document's Check (layer 9): what it asks of the lists, of each kind. Written by tools/genrefcheck.py.
-/
namespace Go.Proofs.YtbadingdklenhaaGreatDoor
set_option maxRecDepth 100000
open Go.RowKit


/-- What is left behind the second question. -/
def rest (I : In) : Int := if I.formed = false then 4 else if I.fine = false then 22 else if I.kind = 2 ∧ hol 0 I.cost = false then 4 else 0
theorem rest_form (I : In) : rest I = if I.formed = false then 4 else if I.fine = false then 22 else if I.kind = 2 ∧ hol 0 I.cost = false then 4 else 0 := rfl

set_option maxHeartbeats 2000000 in
theorem rc_full0 (F G : Nat → Prop) (I : In) (A0 A A2 : Option Addr) (C0 C C2 : Nat) (uc us : List Value) (w : World) (hi : Its F w (.slice A0 I.items.length C0) I.items) (hc : Rws F G w (.slice A 0 C) I.cost uc) (hs : Sts F G w (.slice A2 0 C2) I.sets us) (hK : I.kind = 0) (z4 : I.size = 0) (l1 : I.items.length ≤ 4096) :
    Calls Tryz.prog 25 #[.agg #[.int .i64 0, .int .i64 I.cap, .slice A0 I.items.length C0, .slice A 0 C, .int .i64 0, .slice A2 0 C2]] w fun e w' => e = .returned (.int .i64 (rest I)) ∧ Below w.heap.size w w' := by
  have NU := fun W a b c => numbers_any F G I (.slice A0 I.items.length C0) (.slice A 0 C) (.slice A2 0 C2) uc us W a b c
  unfold inV at NU
  rw [hK, z4] at NU
  obtain ⟨_, _, ei, hC0, hM0⟩ := hi.form
  obtain ⟨_, _, ec, hC, hM⟩ := hc.form
  obtain ⟨_, _, es, hC2, hM2⟩ := hs.form
  simp only [Value.slice.injEq, true_and, eq_comm] at ei ec es
  unfold maxLen at hM hM2 hM0
  have HNC : Hid (I.cost.length = 0) := ec.2.1
  have HNS : Hid (I.sets.length = 0) := es.2.1
  have nb := new_below w (.cells #[.int .i64 0, .int .i64 I.cap, .slice A0 I.items.length C0, .slice A 0 C, .int .i64 0, .slice A2 0 C2] 36)
  have HI := Lib.hid (hi.next nb)
  have HC := Lib.hid (hc.next nb)
  have HS := Lib.hid (hs.next nb)
  have HB := Lib.hid nb
  have HX := Lib.hid (ibox_new w (.int .i64 0) (.int .i64 I.cap) (.slice A0 I.items.length C0) (.slice A 0 C) (.int .i64 0) (.slice A2 0 C2) 36)
  obtain ⟨T, hT⟩ : ∃ T, rest I = T := ⟨_, rfl⟩
  rw [hT]
  have HT := Lib.hid hT.symm
  have HK := Lib.hid hK
  clear hi hc hs nb hT hK ei ec es z4
  have d1 : ¬ (4096 : Int) < (I.items.length : Int) := by omega
  go_enter Tryz.func25, Tryz.ntmps25
  go_wp2
  clear d1
  obtain ⟨w1, hw1⟩ : ∃ q, q = w.alloc (.cells #[.int .i64 0, .int .i64 I.cap, .slice A0 I.items.length C0, .slice A 0 C, .int .i64 0, .slice A2 0 C2] 36) := ⟨_, rfl⟩
  rw [← hw1] at HI HC HS HB HX ⊢
  clear hw1
  go_loopw [4] (fun i wr => i = .int .i64 0 ∧ wr = w1) (fun _ _ => 0)
  case atStart => first | exact ⟨rfl, rfl⟩ | exact ⟨rfl, trivial⟩ | exact trivial
  case round =>
    obtain ⟨rfl, hwr⟩ := hrel
    subst hwr
    obtain ⟨x0, x1, x2, x3, x4, x5⟩ := HX.out
    have HR : Hid (true = I.cost.all (fun r => decide (r.length = I.cost.length))) := by show _ = _; rw [List.eq_nil_of_length_eq_zero HNC.out]; rfl
    have HBk := Lib.hid HB.out
    have HIk := Lib.hid HI.out
    have HCk := Lib.hid HC.out
    have HSk := Lib.hid HS.out
    have HXk := Lib.hid HX.out
    clear HI HC HS HX
    go_wp2
    obtain ⟨w2, hw2⟩ : ∃ q, q = wr := ⟨wr, rfl⟩
    subst hw2
    clear x0 x1 x2 x3 x4 x5
    go_loopw [5] (fun i wr => i = .int .i64 0 ∧ wr = w2) (fun _ _ => 0)
    case atStart => first | exact ⟨rfl, rfl⟩ | exact ⟨rfl, trivial⟩ | exact trivial
    case round =>
      obtain ⟨rfl, hwr⟩ := hrel
      subst hwr
      obtain ⟨x0, x1, x2, x3, x4, x5⟩ := HXk.out
      have HR2 : Hid (I.formed = true) := by show _ = _; unfold In.formed; rw [← HR.out, List.eq_nil_of_length_eq_zero HNS.out]; rfl
      have HIl := Lib.hid HIk.out
      have HCl := Lib.hid HCk.out
      have HSl := Lib.hid HSk.out
      have HXl := Lib.hid HXk.out
      have HBl := Lib.hid HBk.out
      go_wp2_with fail
      with_reducible refine (NU _ HIl.out HCl.out HSl.out).mono ?_
      rintro e w4 ⟨rfl, b4⟩
      have HC4 := Lib.hid (HCl.out.next b4)
      have HX4 := Lib.hid (HXl.out.next b4)
      have HB4 := Lib.hid (on HBl.out b4)
      clear b4 HIl HCl HSl HXl HBl x0 x1 x2 x3 x4 x5 NU
      by_cases hf : I.fine = false
      · have HR3 : Hid (T = 22) := by show _ = _; rw [HT.out]; unfold rest; rw [if_neg (by rw [HR2.out]; simp), if_pos hf]
        rw [hf]
        clear hf
        go_wp2
        go_ret
        exact ⟨by rw [HR3.out]; rfl, HB4.out⟩
      have hf : I.fine = true := by simpa using hf
      have HFI := Lib.hid hf
      rw [hf]
      clear hf
      go_wp2
      go_loopw [9] (fun i wr => i = .int .i64 0 ∧ wr = w4) (fun _ _ => 0)
      case atStart => first | exact ⟨rfl, rfl⟩ | exact ⟨rfl, trivial⟩ | exact trivial
      case round =>
        obtain ⟨rfl, hwr⟩ := hrel
        subst hwr
        obtain ⟨x0, x1, x2, x3, x4, x5⟩ := HX4.out
        have HR5 : Hid (T = 0) := by show _ = _; rw [HT.out]; unfold rest; rw [if_neg (by rw [HR2.out]; simp), if_neg (by rw [HFI.out]; simp), if_neg (by rw [HK.out]; omega)]
        go_wp2
        go_ret
        exact ⟨by rw [HR5.out]; rfl, HB4.out⟩

set_option maxHeartbeats 2000000 in
theorem rc_full1 (F G : Nat → Prop) (I : In) (A0 A A2 : Option Addr) (C0 C C2 : Nat) (uc us : List Value) (w : World) (hi : Its F w (.slice A0 0 C0) I.items) (hc : Rws F G w (.slice A I.cost.length C) I.cost uc) (hs : Sts F G w (.slice A2 0 C2) I.sets us) (hK : I.kind = 1) (z0 : I.cap = 0) (z4 : I.size = 0) (l2 : 1 ≤ I.cost.length) (l6 : I.cost.length ≤ 64) :
    Calls Tryz.prog 25 #[.agg #[.int .i64 1, .int .i64 0, .slice A0 0 C0, .slice A I.cost.length C, .int .i64 0, .slice A2 0 C2]] w fun e w' => e = .returned (.int .i64 (rest I)) ∧ Below w.heap.size w w' := by
  have NU := fun W a b c => numbers_any F G I (.slice A0 0 C0) (.slice A I.cost.length C) (.slice A2 0 C2) uc us W a b c
  unfold inV at NU
  rw [hK, z0, z4] at NU
  obtain ⟨_, _, ei, hC0, hM0⟩ := hi.form
  obtain ⟨_, _, ec, hC, hM⟩ := hc.form
  obtain ⟨_, _, es, hC2, hM2⟩ := hs.form
  simp only [Value.slice.injEq, true_and, eq_comm] at ei ec es
  unfold maxLen at hM hM2 hM0
  have HNI : Hid (I.items.length = 0) := ei.2.1
  have HNS : Hid (I.sets.length = 0) := es.2.1
  have nb := new_below w (.cells #[.int .i64 1, .int .i64 0, .slice A0 0 C0, .slice A I.cost.length C, .int .i64 0, .slice A2 0 C2] 36)
  have HI := Lib.hid (hi.next nb)
  have HC := Lib.hid (hc.next nb)
  have HS := Lib.hid (hs.next nb)
  have HB := Lib.hid nb
  have HX := Lib.hid (ibox_new w (.int .i64 1) (.int .i64 0) (.slice A0 0 C0) (.slice A I.cost.length C) (.int .i64 0) (.slice A2 0 C2) 36)
  obtain ⟨T, hT⟩ : ∃ T, rest I = T := ⟨_, rfl⟩
  rw [hT]
  have HT := Lib.hid hT.symm
  have HK := Lib.hid hK
  clear hi hc hs nb hT hK ei ec es z0 z4
  have d2 : ¬ (64 : Int) < (I.cost.length : Int) := by omega
  have d6 : ((I.cost.length : Int) == 0) = false := by rw [beq_eq_false_iff_ne]; omega
  go_enter Tryz.func25, Tryz.ntmps25
  go_wp2
  clear d2 d6
  obtain ⟨w1, hw1⟩ : ∃ q, q = w.alloc (.cells #[.int .i64 1, .int .i64 0, .slice A0 0 C0, .slice A I.cost.length C, .int .i64 0, .slice A2 0 C2] 36) := ⟨_, rfl⟩
  rw [← hw1] at HI HC HS HB HX ⊢
  clear hw1
  go_loopw [4] (fun i wr => ∃ (k : Nat), k ≤ I.cost.length ∧ i = .int .i64 (k : Nat) ∧ Hid (Below w1.heap.size w1 wr) ∧ Hid ((I.cost.drop k).all (fun r => decide (r.length = I.cost.length)) = I.cost.all (fun r => decide (r.length = I.cost.length)))) (fun i _ => I.cost.length - (intOf i).toNat)
  case atStart => exact ⟨0, by omega, rfl, Below.refl _ _, rfl⟩
  case round =>
    obtain ⟨k, hk, rfl, hB, hQ⟩ := hrel
    have HBk := Lib.hid (on HB.out hB.out)
    obtain ⟨x0, x1, x2, x3, x4, x5⟩ := HX.out.next hB.out
    by_cases hlt : k < I.cost.length
    · obtain ⟨b, off, r, A', C', rfl, _, hb, hr, c0, _, hC', hM', hI⟩ := (HC.out.next hB.out).get hlt
      have hq := hQ.out
      rw [all_drop hr] at hq
      have c01 : (0 : Int) ≤ (k : Int) := by omega
      have c02 : (k : Int) < (I.cost.length : Int) := by omega
      have HBB := hB
      by_cases h1 : r.length = I.cost.length
      · have HR : Hid ((I.cost.drop (k + 1)).all (fun r => decide (r.length = I.cost.length)) = I.cost.all (fun r => decide (r.length = I.cost.length))) := by show _ = _; rw [← hq]; simp [h1]
        rw [h1] at c0
        clear hQ hq hI hr h1 hB
        go_wp2
        go_quiet (fail)
        go_wp2
        go_roundw
        case rel => exact ⟨k + 1, by omega, by go_num, below_drewN HBB.out _, HR⟩
        case measure => simp [intOf]; omega
      · have HR : Hid (I.formed = false) := by
          show _ = _
          unfold In.formed
          rw [← hq]; simp [h1]
        have HR2 : Hid (T = 4) := by show _ = _; rw [HT.out]; exact if_pos HR.out
        have h2 : ((r.length : Int) == (I.cost.length : Int)) = false := by rw [beq_eq_false_iff_ne]; omega
        clear hQ hq hI hr hB
        go_wp2
        go_quiet (fail)
        go_wp2
        go_ret
        exact ⟨by rw [HR2.out]; rfl, below_drewN HBk.out _⟩
    · obtain rfl : k = I.cost.length := by omega
      have hq := hQ.out
      rw [all_done] at hq
      have HR := Lib.hid hq
      have HIk := Lib.hid (HI.out.next hB.out)
      have HCk := Lib.hid (HC.out.next hB.out)
      have HSk := Lib.hid (HS.out.next hB.out)
      have HXk := Lib.hid (HX.out.next hB.out)
      clear hq hQ hB HI HC HS HX
      go_wp2
      obtain ⟨w2, hw2⟩ : ∃ q, q = wr := ⟨wr, rfl⟩
      subst hw2
      clear x0 x1 x2 x3 x4 x5
      go_loopw [5] (fun i wr => i = .int .i64 0 ∧ wr = w2) (fun _ _ => 0)
      case atStart => first | exact ⟨rfl, rfl⟩ | exact ⟨rfl, trivial⟩ | exact trivial
      case round =>
        obtain ⟨rfl, hwr⟩ := hrel
        subst hwr
        obtain ⟨x0, x1, x2, x3, x4, x5⟩ := HXk.out
        have HR2 : Hid (I.formed = true) := by show _ = _; unfold In.formed; rw [← HR.out, List.eq_nil_of_length_eq_zero HNS.out]; rfl
        have HIl := Lib.hid HIk.out
        have HCl := Lib.hid HCk.out
        have HSl := Lib.hid HSk.out
        have HXl := Lib.hid HXk.out
        have HBl := Lib.hid HBk.out
        go_wp2_with fail
        with_reducible refine (NU _ HIl.out HCl.out HSl.out).mono ?_
        rintro e w4 ⟨rfl, b4⟩
        have HC4 := Lib.hid (HCl.out.next b4)
        have HX4 := Lib.hid (HXl.out.next b4)
        have HB4 := Lib.hid (on HBl.out b4)
        clear b4 HIl HCl HSl HXl HBl x0 x1 x2 x3 x4 x5 NU
        by_cases hf : I.fine = false
        · have HR3 : Hid (T = 22) := by show _ = _; rw [HT.out]; unfold rest; rw [if_neg (by rw [HR2.out]; simp), if_pos hf]
          rw [hf]
          clear hf
          go_wp2
          go_ret
          exact ⟨by rw [HR3.out]; rfl, HB4.out⟩
        have hf : I.fine = true := by simpa using hf
        have HFI := Lib.hid hf
        rw [hf]
        clear hf
        go_wp2
        go_loopw [9] (fun i wr => i = .int .i64 0 ∧ wr = w4) (fun _ _ => 0)
        case atStart => first | exact ⟨rfl, rfl⟩ | exact ⟨rfl, trivial⟩ | exact trivial
        case round =>
          obtain ⟨rfl, hwr⟩ := hrel
          subst hwr
          obtain ⟨x0, x1, x2, x3, x4, x5⟩ := HX4.out
          have HR5 : Hid (T = 0) := by show _ = _; rw [HT.out]; unfold rest; rw [if_neg (by rw [HR2.out]; simp), if_neg (by rw [HFI.out]; simp), if_neg (by rw [HK.out]; omega)]
          have hn2 : (0 : Int) < (I.cost.length : Int) := by omega
          go_wp2
          go_ret
          exact ⟨by rw [HR5.out]; rfl, HB4.out⟩

set_option maxHeartbeats 2000000 in
theorem rc_full2 (F G : Nat → Prop) (I : In) (A0 A A2 : Option Addr) (C0 C C2 : Nat) (uc us : List Value) (w : World) (hi : Its F w (.slice A0 0 C0) I.items) (hc : Rws F G w (.slice A I.cost.length C) I.cost uc) (hs : Sts F G w (.slice A2 0 C2) I.sets us) (hK : I.kind = 2) (z0 : I.cap = 0) (z4 : I.size = 0) (l2 : 1 ≤ I.cost.length) (l6 : I.cost.length ≤ 64) :
    Calls Tryz.prog 25 #[.agg #[.int .i64 2, .int .i64 0, .slice A0 0 C0, .slice A I.cost.length C, .int .i64 0, .slice A2 0 C2]] w fun e w' => e = .returned (.int .i64 (rest I)) ∧ Below w.heap.size w w' := by
  have NU := fun W a b c => numbers_any F G I (.slice A0 0 C0) (.slice A I.cost.length C) (.slice A2 0 C2) uc us W a b c
  unfold inV at NU
  rw [hK, z0, z4] at NU
  obtain ⟨_, _, ei, hC0, hM0⟩ := hi.form
  obtain ⟨_, _, ec, hC, hM⟩ := hc.form
  obtain ⟨_, _, es, hC2, hM2⟩ := hs.form
  simp only [Value.slice.injEq, true_and, eq_comm] at ei ec es
  unfold maxLen at hM hM2 hM0
  have HNI : Hid (I.items.length = 0) := ei.2.1
  have HNS : Hid (I.sets.length = 0) := es.2.1
  have nb := new_below w (.cells #[.int .i64 2, .int .i64 0, .slice A0 0 C0, .slice A I.cost.length C, .int .i64 0, .slice A2 0 C2] 36)
  have HI := Lib.hid (hi.next nb)
  have HC := Lib.hid (hc.next nb)
  have HS := Lib.hid (hs.next nb)
  have HB := Lib.hid nb
  have HX := Lib.hid (ibox_new w (.int .i64 2) (.int .i64 0) (.slice A0 0 C0) (.slice A I.cost.length C) (.int .i64 0) (.slice A2 0 C2) 36)
  obtain ⟨T, hT⟩ : ∃ T, rest I = T := ⟨_, rfl⟩
  rw [hT]
  have HT := Lib.hid hT.symm
  have HK := Lib.hid hK
  clear hi hc hs nb hT hK ei ec es z0 z4
  have d2 : ¬ (64 : Int) < (I.cost.length : Int) := by omega
  have d6 : ((I.cost.length : Int) == 0) = false := by rw [beq_eq_false_iff_ne]; omega
  go_enter Tryz.func25, Tryz.ntmps25
  go_wp2
  clear d2 d6
  obtain ⟨w1, hw1⟩ : ∃ q, q = w.alloc (.cells #[.int .i64 2, .int .i64 0, .slice A0 0 C0, .slice A I.cost.length C, .int .i64 0, .slice A2 0 C2] 36) := ⟨_, rfl⟩
  rw [← hw1] at HI HC HS HB HX ⊢
  clear hw1
  go_loopw [4] (fun i wr => ∃ (k : Nat), k ≤ I.cost.length ∧ i = .int .i64 (k : Nat) ∧ Hid (Below w1.heap.size w1 wr) ∧ Hid ((I.cost.drop k).all (fun r => decide (r.length = I.cost.length)) = I.cost.all (fun r => decide (r.length = I.cost.length)))) (fun i _ => I.cost.length - (intOf i).toNat)
  case atStart => exact ⟨0, by omega, rfl, Below.refl _ _, rfl⟩
  case round =>
    obtain ⟨k, hk, rfl, hB, hQ⟩ := hrel
    have HBk := Lib.hid (on HB.out hB.out)
    obtain ⟨x0, x1, x2, x3, x4, x5⟩ := HX.out.next hB.out
    by_cases hlt : k < I.cost.length
    · obtain ⟨b, off, r, A', C', rfl, _, hb, hr, c0, _, hC', hM', hI⟩ := (HC.out.next hB.out).get hlt
      have hq := hQ.out
      rw [all_drop hr] at hq
      have c01 : (0 : Int) ≤ (k : Int) := by omega
      have c02 : (k : Int) < (I.cost.length : Int) := by omega
      have HBB := hB
      by_cases h1 : r.length = I.cost.length
      · have HR : Hid ((I.cost.drop (k + 1)).all (fun r => decide (r.length = I.cost.length)) = I.cost.all (fun r => decide (r.length = I.cost.length))) := by show _ = _; rw [← hq]; simp [h1]
        rw [h1] at c0
        clear hQ hq hI hr h1 hB
        go_wp2
        go_quiet (fail)
        go_wp2
        go_roundw
        case rel => exact ⟨k + 1, by omega, by go_num, below_drewN HBB.out _, HR⟩
        case measure => simp [intOf]; omega
      · have HR : Hid (I.formed = false) := by
          show _ = _
          unfold In.formed
          rw [← hq]; simp [h1]
        have HR2 : Hid (T = 4) := by show _ = _; rw [HT.out]; exact if_pos HR.out
        have h2 : ((r.length : Int) == (I.cost.length : Int)) = false := by rw [beq_eq_false_iff_ne]; omega
        clear hQ hq hI hr hB
        go_wp2
        go_quiet (fail)
        go_wp2
        go_ret
        exact ⟨by rw [HR2.out]; rfl, below_drewN HBk.out _⟩
    · obtain rfl : k = I.cost.length := by omega
      have hq := hQ.out
      rw [all_done] at hq
      have HR := Lib.hid hq
      have HIk := Lib.hid (HI.out.next hB.out)
      have HCk := Lib.hid (HC.out.next hB.out)
      have HSk := Lib.hid (HS.out.next hB.out)
      have HXk := Lib.hid (HX.out.next hB.out)
      clear hq hQ hB HI HC HS HX
      go_wp2
      obtain ⟨w2, hw2⟩ : ∃ q, q = wr := ⟨wr, rfl⟩
      subst hw2
      clear x0 x1 x2 x3 x4 x5
      go_loopw [5] (fun i wr => i = .int .i64 0 ∧ wr = w2) (fun _ _ => 0)
      case atStart => first | exact ⟨rfl, rfl⟩ | exact ⟨rfl, trivial⟩ | exact trivial
      case round =>
        obtain ⟨rfl, hwr⟩ := hrel
        subst hwr
        obtain ⟨x0, x1, x2, x3, x4, x5⟩ := HXk.out
        have HR2 : Hid (I.formed = true) := by show _ = _; unfold In.formed; rw [← HR.out, List.eq_nil_of_length_eq_zero HNS.out]; rfl
        have HIl := Lib.hid HIk.out
        have HCl := Lib.hid HCk.out
        have HSl := Lib.hid HSk.out
        have HXl := Lib.hid HXk.out
        have HBl := Lib.hid HBk.out
        go_wp2_with fail
        with_reducible refine (NU _ HIl.out HCl.out HSl.out).mono ?_
        rintro e w4 ⟨rfl, b4⟩
        have HC4 := Lib.hid (HCl.out.next b4)
        have HX4 := Lib.hid (HXl.out.next b4)
        have HB4 := Lib.hid (on HBl.out b4)
        clear b4 HIl HCl HSl HXl HBl x0 x1 x2 x3 x4 x5 NU
        by_cases hf : I.fine = false
        · have HR3 : Hid (T = 22) := by show _ = _; rw [HT.out]; unfold rest; rw [if_neg (by rw [HR2.out]; simp), if_pos hf]
          rw [hf]
          clear hf
          go_wp2
          go_ret
          exact ⟨by rw [HR3.out]; rfl, HB4.out⟩
        have hf : I.fine = true := by simpa using hf
        have HFI := Lib.hid hf
        rw [hf]
        clear hf
        go_wp2
        go_loopw [9] (fun i wr => ∃ (k : Nat), k ≤ I.cost.length ∧ i = .int .i64 (k : Nat) ∧ wr = w4 ∧ Hid (hol k (I.cost.drop k) = hol 0 I.cost)) (fun i _ => I.cost.length - (intOf i).toNat)
        case atStart => exact ⟨0, by omega, rfl, rfl, rfl⟩
        case round =>
          obtain ⟨k, hk, rfl, rfl, hQ⟩ := hrel
          obtain ⟨x0, x1, x2, x3, x4, x5⟩ := HX4.out
          by_cases hlt : k < I.cost.length
          · obtain ⟨b, off, r, A', C', rfl, _, hb, hr, c0, _, hC', hM', hI⟩ := HC4.out.get hlt
            have hrl := In.formed_row HR2.out hr
            obtain ⟨b', off', x, rfl, _, hb', hx, c1⟩ := hI.get (i := k) (by omega)
            have hq := hQ.out
            rw [hol_drop hr, show r.getD k 0 = x by rw [List.getD_eq_getElem?_getD, hx]; rfl] at hq
            rw [hrl] at c0
            have c01 : (0 : Int) ≤ (k : Int) := by omega
            have c02 : (k : Int) < (I.cost.length : Int) := by omega
            by_cases h1 : x = 0
            · have HR : Hid (hol (k + 1) (I.cost.drop (k + 1)) = hol 0 I.cost) := by show _ = _; rw [← hq]; simp [h1]
              clear hQ hq hx hI hr hrl
              go_wp2
              go_roundw
              case rel => exact ⟨k + 1, by omega, by go_num, trivial, HR⟩
              case measure => simp [intOf]; omega
            · have HR : Hid (hol 0 I.cost = false) := by show _ = _; rw [← hq]; simp [h1]
              have HR5 : Hid (T = 4) := by show _ = _; rw [HT.out]; unfold rest; rw [if_neg (by rw [HR2.out]; simp), if_neg (by rw [HFI.out]; simp), if_pos ⟨HK.out, HR.out⟩]
              clear hQ hq hx hI hr hrl
              go_wp2
              go_ret
              exact ⟨by rw [HR5.out]; rfl, HB4.out⟩
          · obtain rfl : k = I.cost.length := by omega
            have hq := hQ.out
            rw [List.drop_eq_nil_of_le (Nat.le_refl _)] at hq
            simp only [hol] at hq
            have HR5 : Hid (T = 0) := by show _ = _; rw [HT.out]; unfold rest; rw [if_neg (by rw [HR2.out]; simp), if_neg (by rw [HFI.out]; simp), if_neg (by rw [← hq]; simp)]
            clear hq hQ
            go_wp2
            go_ret
            exact ⟨by rw [HR5.out]; rfl, HB4.out⟩

set_option maxHeartbeats 2000000 in
theorem rc_full3 (F G : Nat → Prop) (I : In) (A0 A A2 : Option Addr) (C0 C C2 : Nat) (uc us : List Value) (w : World) (hi : Its F w (.slice A0 0 C0) I.items) (hc : Rws F G w (.slice A 0 C) I.cost uc) (hs : Sts F G w (.slice A2 I.sets.length C2) I.sets us) (hK : I.kind = 3) (z0 : I.cap = 0) (l3 : I.sets.length ≤ 4096) (l4 : 0 ≤ I.size) (l5 : I.size ≤ 4096) :
    Calls Tryz.prog 25 #[.agg #[.int .i64 3, .int .i64 0, .slice A0 0 C0, .slice A 0 C, .int .i64 I.size, .slice A2 I.sets.length C2]] w fun e w' => e = .returned (.int .i64 (rest I)) ∧ Below w.heap.size w w' := by
  have NU := fun W a b c => numbers_any F G I (.slice A0 0 C0) (.slice A 0 C) (.slice A2 I.sets.length C2) uc us W a b c
  unfold inV at NU
  rw [hK, z0] at NU
  obtain ⟨_, _, ei, hC0, hM0⟩ := hi.form
  obtain ⟨_, _, ec, hC, hM⟩ := hc.form
  obtain ⟨_, _, es, hC2, hM2⟩ := hs.form
  simp only [Value.slice.injEq, true_and, eq_comm] at ei ec es
  unfold maxLen at hM hM2 hM0
  have HNI : Hid (I.items.length = 0) := ei.2.1
  have HNC : Hid (I.cost.length = 0) := ec.2.1
  have nb := new_below w (.cells #[.int .i64 3, .int .i64 0, .slice A0 0 C0, .slice A 0 C, .int .i64 I.size, .slice A2 I.sets.length C2] 36)
  have HI := Lib.hid (hi.next nb)
  have HC := Lib.hid (hc.next nb)
  have HS := Lib.hid (hs.next nb)
  have HB := Lib.hid nb
  have HX := Lib.hid (ibox_new w (.int .i64 3) (.int .i64 0) (.slice A0 0 C0) (.slice A 0 C) (.int .i64 I.size) (.slice A2 I.sets.length C2) 36)
  obtain ⟨T, hT⟩ : ∃ T, rest I = T := ⟨_, rfl⟩
  rw [hT]
  have HT := Lib.hid hT.symm
  have HK := Lib.hid hK
  clear hi hc hs nb hT hK ei ec es z0
  have d3 : ¬ (4096 : Int) < (I.sets.length : Int) := by omega
  have d4 : ¬ I.size < 0 := by omega
  have d5 : ¬ 4096 < I.size := by omega
  go_enter Tryz.func25, Tryz.ntmps25
  go_wp2
  clear d3 d4 d5
  obtain ⟨w1, hw1⟩ : ∃ q, q = w.alloc (.cells #[.int .i64 3, .int .i64 0, .slice A0 0 C0, .slice A 0 C, .int .i64 I.size, .slice A2 I.sets.length C2] 36) := ⟨_, rfl⟩
  rw [← hw1] at HI HC HS HB HX ⊢
  clear hw1
  go_loopw [4] (fun i wr => i = .int .i64 0 ∧ wr = w1) (fun _ _ => 0)
  case atStart => first | exact ⟨rfl, rfl⟩ | exact ⟨rfl, trivial⟩ | exact trivial
  case round =>
    obtain ⟨rfl, hwr⟩ := hrel
    subst hwr
    obtain ⟨x0, x1, x2, x3, x4, x5⟩ := HX.out
    have HR : Hid (true = I.cost.all (fun r => decide (r.length = I.cost.length))) := by show _ = _; rw [List.eq_nil_of_length_eq_zero HNC.out]; rfl
    have HBk := Lib.hid HB.out
    have HIk := Lib.hid HI.out
    have HCk := Lib.hid HC.out
    have HSk := Lib.hid HS.out
    have HXk := Lib.hid HX.out
    clear HI HC HS HX
    go_wp2
    obtain ⟨w2, hw2⟩ : ∃ q, q = wr := ⟨wr, rfl⟩
    subst hw2
    clear x0 x1 x2 x3 x4 x5
    go_loopw [5] (fun i wr => ∃ (k : Nat), k ≤ I.sets.length ∧ i = .int .i64 (k : Nat) ∧ Hid (Below w2.heap.size w2 wr) ∧ Hid ((I.sets.drop k).all (fun s => ris I.size 0 s.2) = I.sets.all (fun s => ris I.size 0 s.2))) (fun i _ => I.sets.length - (intOf i).toNat)
    case atStart => exact ⟨0, by omega, rfl, Below.refl _ _, rfl⟩
    case round =>
      obtain ⟨k, hk, rfl, hB, hQ⟩ := hrel
      obtain ⟨x0, x1, x2, x3, x4, x5⟩ := HXk.out.next hB.out
      by_cases hlt : k < I.sets.length
      · obtain ⟨b, off, s, A', C', rfl, _, hb, hs, c0, c1, _, hC', hM', hI⟩ := (HSk.out.next hB.out).get hlt
        have hq := hQ.out
        rw [all_drop hs] at hq
        have HQ := Lib.hid hq
        have HII := Lib.hid hI
        have HBB := Lib.hid (on HBk.out hB.out)
        have HBr := Lib.hid hB.out
        have HXr := Lib.hid (HXk.out.next hB.out)
        have c01 : (0 : Int) ≤ (k : Int) := by omega
        have c02 : (k : Int) < (I.sets.length : Int) := by omega
        unfold maxLen at hM'
        clear hQ hq hI hs hB
        go_wp2
        obtain ⟨w3, hw3⟩ : ∃ q, q = wr := ⟨wr, rfl⟩
        subst hw3
        clear x0 x1 x2 x3 x4 x5 c0 c1
        go_loopw [7] (fun i wr => ∃ (j : Nat) (z : Int), j ≤ s.2.length ∧ i = .int .i64 (j : Nat) ∧ Hid (0 ≤ z ∧ (j = 0 → z = 0) ∧ (∀ y, 0 < j → s.2[j - 1]? = some y → z = y + 1)) ∧ Hid (Below w3.heap.size w3 wr) ∧ Hid (ris I.size z (s.2.drop j) = ris I.size 0 s.2)) (fun i _ => s.2.length - (intOf i).toNat)
        case atStart => exact ⟨0, 0, by omega, rfl, ⟨by omega, fun _ => rfl, fun _ h => by omega⟩, Below.refl _ _, rfl⟩
        case round =>
          obtain ⟨j, z, hj, rfl, hz, hB, hQ⟩ := hrel
          obtain ⟨x0, x1, x2, x3, x4, x5⟩ := HXr.out.next hB.out
          by_cases hlj : j < s.2.length
          · obtain ⟨b', off', x, rfl, _, hb', hx, e1⟩ := (HII.out.next hB.out).get hlj
            have hq := hQ.out
            obtain ⟨hi, hxi⟩ := List.getElem?_eq_some_iff.1 hx
            rw [List.drop_eq_getElem_cons hi, hxi] at hq
            simp only [ris] at hq
            have HQ2 := Lib.hid hq
            have HXX := Lib.hid hx
            have d01 : (0 : Int) ≤ (j : Int) := by omega
            have d02 : (j : Int) < (s.2.length : Int) := by omega
            clear hQ hq hxi hx
            -- where it isn't as it must be
            have bad : ris I.size 0 s.2 = false → T = 4 := by
              intro h
              have e : I.formed = false := by
                unfold In.formed
                rw [← HQ.out, h]; simp
              rw [HT.out]; exact if_pos e
            have HBAD := Lib.hid bad
            clear bad
            by_cases h1 : x < 0
            · have hd1 : decide (x < 0) = true := decide_eq_true h1
              have HR2 : Hid (T = 4) := HBAD.out (by rw [← HQ2.out]; simp; intro h; have := hz.out.1; omega)
              have HBf := Lib.hid (on HBB.out hB.out)
              clear hB
              go_wp2
              go_quiet (fail)
              go_wp2
              go_ret
              exact ⟨by rw [HR2.out]; rfl, below_drewN HBf.out _⟩
            · have hd1 : decide (x < 0) = false := decide_eq_false h1
              by_cases h2 : I.size ≤ x
              · have hd2 : decide (I.size ≤ x) = true := decide_eq_true h2
                have HR2 : Hid (T = 4) := HBAD.out (by rw [← HQ2.out]; simp; intro h; omega)
                have HBf := Lib.hid (on HBB.out hB.out)
                clear hB
                go_wp2
                go_quiet (fail)
                go_wp2
                go_ret
                exact ⟨by rw [HR2.out]; rfl, below_drewN HBf.out _⟩
              · have hd2 : decide (I.size ≤ x) = false := decide_eq_false h2
                by_cases h0 : j = 0
                · have hz0 := hz.out.2.1 h0
                  have hd3 : decide (0 < j) = false := decide_eq_false (by omega)
                  have HR3 : Hid (ris I.size (x + 1) (s.2.drop (j + 1)) = ris I.size 0 s.2) := by show _ = _; rw [← HQ2.out, hz0]; simp; omega
                  have HZ3 : Hid (0 ≤ x + 1 ∧ (j + 1 = 0 → x + 1 = 0) ∧ (∀ y, 0 < j + 1 → s.2[j + 1 - 1]? = some y → x + 1 = y + 1)) := ⟨by omega, fun h => by omega, fun y _ hy => by rw [show j + 1 - 1 = j by omega, HXX.out] at hy; cases hy; rfl⟩
                  have HBf := Lib.hid hB.out
                  clear hB hz hz0 h0
                  go_wp2
                  go_quiet (fail)
                  go_wp2
                  go_roundw
                  case rel => exact ⟨j + 1, x + 1, by omega, by go_num, HZ3, below_drewN HBf.out _, HR3⟩
                  case measure => simp [intOf]; omega
                · obtain ⟨M, hM1⟩ : ∃ M, M + 1 = j := ⟨j - 1, by omega⟩
                  obtain ⟨y, hy⟩ : ∃ y, s.2[M]? = some y := ⟨_, List.getElem?_eq_getElem (by omega)⟩
                  obtain ⟨b2, off2, y2, hbo, _, _, hy2, e2⟩ := (HII.out.next hB.out).get (i := M) (by omega)
                  obtain rfl : y2 = y := by rw [hy] at hy2; cases hy2; rfl
                  obtain ⟨rfl, rfl⟩ : b2 = b' ∧ off2 = off' := by simpa [eq_comm] using hbo
                  have hzy := hz.out.2.2 y2 (by omega) (by rw [show j - 1 = M by omega]; exact hy)
                  have hd3 : decide (0 < j) = true := decide_eq_true (by omega)
                  have kw : IntKind.i64.wrap ((j : Int) - 1) = (M : Int) := by rw [IntKind.wrap_i64]; omega
                  have j3 : (0 : Int) ≤ (M : Int) := by omega
                  have j4 : (M : Int) < (s.2.length : Int) := by omega
                  by_cases h3 : x ≤ y2
                  · have hd4 : decide (x ≤ y2) = true := decide_eq_true h3
                    have HR2 : Hid (T = 4) := HBAD.out (by rw [← HQ2.out]; simp; intro h; omega)
                    have HBf := Lib.hid (on HBB.out hB.out)
                    clear hB hz hzy hy hy2 hbo h0 hM1
                    go_wp2
                    go_quiet (fail)
                    go_wp2
                    go_ret
                    exact ⟨by rw [HR2.out]; rfl, below_drewN HBf.out _⟩
                  · have hd4 : decide (x ≤ y2) = false := decide_eq_false h3
                    have HR3 : Hid (ris I.size (x + 1) (s.2.drop (j + 1)) = ris I.size 0 s.2) := by show _ = _; rw [← HQ2.out, hzy]; simp; omega
                    have HZ3 : Hid (0 ≤ x + 1 ∧ (j + 1 = 0 → x + 1 = 0) ∧ (∀ y, 0 < j + 1 → s.2[j + 1 - 1]? = some y → x + 1 = y + 1)) := ⟨by omega, fun h => by omega, fun y _ hy => by rw [show j + 1 - 1 = j by omega, HXX.out] at hy; cases hy; rfl⟩
                    have HBf := Lib.hid hB.out
                    clear hB hz hzy hy hy2 hbo h0 hM1
                    go_wp2
                    go_quiet (fail)
                    go_wp2
                    go_roundw
                    case rel => exact ⟨j + 1, x + 1, by omega, by go_num, HZ3, below_drewN HBf.out _, HR3⟩
                    case measure => simp [intOf]; omega
          · obtain rfl : j = s.2.length := by omega
            have hq := hQ.out
            rw [List.drop_eq_nil_of_le (Nat.le_refl _)] at hq
            simp only [ris] at hq
            have HR3 : Hid ((I.sets.drop (k + 1)).all (fun s => ris I.size 0 s.2) = I.sets.all (fun s => ris I.size 0 s.2)) := by show _ = _; rw [← HQ.out, ← hq]; simp
            have HBf := Lib.hid (on HBr.out hB.out)
            clear hq hQ hB hz
            go_wp2
            go_roundw
            case rel => exact ⟨k + 1, by omega, by go_num, HBf, HR3⟩
            case measure => simp [intOf]; omega
      · obtain rfl : k = I.sets.length := by omega
        have hq := hQ.out
        rw [all_done] at hq
        have HR2 : Hid (I.formed = true) := by show _ = _; unfold In.formed; rw [← HR.out, ← hq]; rfl
        have HIl := Lib.hid (HIk.out.next hB.out)
        have HCl := Lib.hid (HCk.out.next hB.out)
        have HSl := Lib.hid (HSk.out.next hB.out)
        have HXl := Lib.hid (HXk.out.next hB.out)
        have HBl := Lib.hid (on HBk.out hB.out)
        clear hq hQ hB HIk HCk HSk HXk
        go_wp2_with fail
        with_reducible refine (NU _ HIl.out HCl.out HSl.out).mono ?_
        rintro e w4 ⟨rfl, b4⟩
        have HC4 := Lib.hid (HCl.out.next b4)
        have HX4 := Lib.hid (HXl.out.next b4)
        have HB4 := Lib.hid (on HBl.out b4)
        clear b4 HIl HCl HSl HXl HBl x0 x1 x2 x3 x4 x5 NU
        by_cases hf : I.fine = false
        · have HR3 : Hid (T = 22) := by show _ = _; rw [HT.out]; unfold rest; rw [if_neg (by rw [HR2.out]; simp), if_pos hf]
          rw [hf]
          clear hf
          go_wp2
          go_ret
          exact ⟨by rw [HR3.out]; rfl, HB4.out⟩
        have hf : I.fine = true := by simpa using hf
        have HFI := Lib.hid hf
        rw [hf]
        clear hf
        go_wp2
        go_loopw [9] (fun i wr => i = .int .i64 0 ∧ wr = w4) (fun _ _ => 0)
        case atStart => first | exact ⟨rfl, rfl⟩ | exact ⟨rfl, trivial⟩ | exact trivial
        case round =>
          obtain ⟨rfl, hwr⟩ := hrel
          subst hwr
          obtain ⟨x0, x1, x2, x3, x4, x5⟩ := HX4.out
          have HR5 : Hid (T = 0) := by show _ = _; rw [HT.out]; unfold rest; rw [if_neg (by rw [HR2.out]; simp), if_neg (by rw [HFI.out]; simp), if_neg (by rw [HK.out]; omega)]
          go_wp2
          go_ret
          exact ⟨by rw [HR5.out]; rfl, HB4.out⟩
end Go.Proofs.YtbadingdklenhaaGreatDoor

/-
  What the document's Check and N do (layer 9). Written by tools/genrefcheck.py.
-/
namespace Go.Proofs.YtbadingdklenhaaGreatDoor
set_option maxRecDepth 100000
open Go.RowKit


theorem others_iff (I : In) : I.others = true ↔ ((I.kind = 0 ∧ (0 < I.cost.length ∨ (¬ I.size = 0 ∨ 0 < I.sets.length))) ∨ (I.kind = 3 ∧ ((¬ I.cap = 0 ∨ 0 < I.items.length) ∨ 0 < I.cost.length))) ∨ (¬ I.kind = 0 ∧ (¬ I.kind = 3 ∧ ((¬ I.cap = 0 ∨ 0 < I.items.length) ∨ (¬ I.size = 0 ∨ 0 < I.sets.length)))) := by
  unfold In.others In.kn In.sq In.cv
  simp only [Bool.or_eq_true, Bool.and_eq_true, decide_eq_true_eq]
theorem sized_iff (I : In) : I.sized = true ↔ ((((I.items.length ≤ 4096 ∧ I.cost.length ≤ 64) ∧ (1 ≤ I.cost.length ∨ (¬ I.kind = 1 ∧ ¬ I.kind = 2))) ∧ 0 ≤ I.size) ∧ I.size ≤ 4096) ∧ I.sets.length ≤ 4096 := by
  unfold In.sized
  simp only [Bool.or_eq_true, Bool.and_eq_true, decide_eq_true_eq, Bool.not_eq_true', Bool.or_eq_false_iff, decide_eq_false_iff_not]
theorem chk_rest {I : In} (h1 : 0 ≤ I.kind) (h2 : I.kind ≤ 3) (h3 : I.others = false) (h4 : I.sized = true) : I.chk = rest I := by unfold In.chk rest; rw [if_neg (by omega), if_neg (by simp [h3]), if_neg (by simp [h4])]
theorem chk_good {I : In} (h : I.chk = 0) : 0 ≤ I.kind ∧ I.kind ≤ 3 ∧ I.others = false ∧ I.sized = true := by
  unfold In.chk at h
  split at h
  · omega
  · split at h
    · omega
    · split at h
      · omega
      · rename_i h1 h2 h3
        exact ⟨by omega, by omega, by simpa using h2, by simpa using h3⟩
theorem not_true {b : Bool} (h : ¬ b = true) : b = false := by simpa using h

theorem rcheck_any (F G : Nat → Prop) (I : In) (v : Value) (w : World) (h : Ins F G w v I) :
    Calls Tryz.prog 25 #[v] w fun e w' => e = .returned (.int .i64 I.chk) ∧ Below w.heap.size w w' := by
  obtain ⟨vi, vc, vs, uc, us, rfl, hi, hc, hs⟩ := h.form
  obtain ⟨A0, C0, rfl, _, _⟩ := hi.form
  obtain ⟨A, C, rfl, _, _⟩ := hc.form
  obtain ⟨A2, C2, rfl, _, _⟩ := hs.form
  have OI := others_iff I
  have SI := sized_iff I
  by_cases hneg : I.kind < 0
  · rw [In.chk_kind (.inl hneg)]
    exact rc_neg _ _ _ _ _ _ _ _ _ _ _ _ _ hneg
  by_cases hbig : 3 < I.kind
  · rw [In.chk_kind (.inr hbig)]
    exact rc_big _ _ _ _ _ _ _ _ _ _ _ _ _ hneg hbig
  have k1 : 0 ≤ I.kind := by omega
  have k2 : I.kind ≤ 3 := by omega
  by_cases hK0 : I.kind = 0
  · by_cases z2 : I.cost.length = 0
    · by_cases z4 : I.size = 0
      · by_cases z3 : I.sets.length = 0
        · have ho : I.others = false := not_true fun h => by have := OI.1 h; omega
          by_cases l1 : I.items.length ≤ 4096
          · rw [chk_rest k1 k2 ho (SI.2 (by omega)), hK0, z2, z4, z3]
            rw [z2] at hc
            rw [z3] at hs
            exact rc_full0 F G I _ _ _ _ _ _ uc us w hi hc hs hK0 z4 l1
          · rw [In.chk_sized k1 k2 ho (not_true fun h => by have := SI.1 h; omega), hK0, z2, z4, z3]
            exact rc_k0d _ _ _ _ _ _ _ _ _ (by omega)
        · rw [In.chk_others k1 k2 (OI.2 (by omega)), hK0, z2, z4]
          exact rc_k0c _ _ _ _ _ _ _ _ _ _ (by omega)
      · rw [In.chk_others k1 k2 (OI.2 (by omega)), hK0, z2]
        exact rc_k0b _ _ _ _ _ _ _ _ _ _ _ z4
    · rw [In.chk_others k1 k2 (OI.2 (by omega)), hK0]
      exact rc_k0a _ _ _ _ _ _ _ _ _ _ _ _ (by omega)
  by_cases hK3 : I.kind = 3
  · by_cases z0 : I.cap = 0
    · by_cases z1 : I.items.length = 0
      · by_cases z2 : I.cost.length = 0
        · have ho : I.others = false := not_true fun h => by have := OI.1 h; omega
          by_cases l3 : I.sets.length ≤ 4096
          · by_cases l4 : 0 ≤ I.size
            · by_cases l5 : I.size ≤ 4096
              · rw [chk_rest k1 k2 ho (SI.2 (by omega)), hK3, z0, z1, z2]
                rw [z2] at hc
                rw [z1] at hi
                exact rc_full3 F G I _ _ _ _ _ _ uc us w hi hc hs hK3 z0 l3 l4 l5
              · rw [In.chk_sized k1 k2 ho (not_true fun h => by have := SI.1 h; omega), hK3, z0, z1, z2]
                exact rc_k3f _ _ _ _ _ _ _ _ _ (by omega) (by omega) (by omega)
            · rw [In.chk_sized k1 k2 ho (not_true fun h => by have := SI.1 h; omega), hK3, z0, z1, z2]
              exact rc_k3e _ _ _ _ _ _ _ _ _ (by omega) (by omega)
          · rw [In.chk_sized k1 k2 ho (not_true fun h => by have := SI.1 h; omega), hK3, z0, z1, z2]
            exact rc_k3d _ _ _ _ _ _ _ _ _ (by omega)
        · rw [In.chk_others k1 k2 (OI.2 (by omega)), hK3, z0, z1]
          exact rc_k3c _ _ _ _ _ _ _ _ _ _ (by omega)
      · rw [In.chk_others k1 k2 (OI.2 (by omega)), hK3, z0]
        exact rc_k3b _ _ _ _ _ _ _ _ _ _ _ (by omega)
    · rw [In.chk_others k1 k2 (OI.2 (by omega)), hK3]
      exact rc_k3a _ _ _ _ _ _ _ _ _ _ _ _ z0
  by_cases hK1 : I.kind = 1
  · by_cases z0 : I.cap = 0
    · by_cases z1 : I.items.length = 0
      · by_cases z4 : I.size = 0
        · by_cases z3 : I.sets.length = 0
          · have ho : I.others = false := not_true fun h => by have := OI.1 h; omega
            by_cases l6 : I.cost.length ≤ 64
            · by_cases z2 : I.cost.length = 0
              · rw [In.chk_sized k1 k2 ho (not_true fun h => by have := SI.1 h; omega), hK1, z0, z1, z2, z4, z3]
                exact rc_k1f _ _ _ _ _ _ _
              · rw [chk_rest k1 k2 ho (SI.2 (by omega)), hK1, z0, z1, z4, z3]
                rw [z1] at hi
                rw [z3] at hs
                exact rc_full1 F G I _ _ _ _ _ _ uc us w hi hc hs hK1 z0 z4 (by omega) l6
            · rw [In.chk_sized k1 k2 ho (not_true fun h => by have := SI.1 h; omega), hK1, z0, z1, z4, z3]
              exact rc_k1e _ _ _ _ _ _ _ _ (by omega)
          · rw [In.chk_others k1 k2 (OI.2 (by omega)), hK1, z0, z1, z4]
            exact rc_k1d _ _ _ _ _ _ _ _ _ (by omega)
        · rw [In.chk_others k1 k2 (OI.2 (by omega)), hK1, z0, z1]
          exact rc_k1c _ _ _ _ _ _ _ _ _ _ z4
      · rw [In.chk_others k1 k2 (OI.2 (by omega)), hK1, z0]
        exact rc_k1b _ _ _ _ _ _ _ _ _ _ _ (by omega)
    · rw [In.chk_others k1 k2 (OI.2 (by omega)), hK1]
      exact rc_k1a _ _ _ _ _ _ _ _ _ _ _ _ z0
  have hK2 : I.kind = 2 := by omega
  · by_cases z0 : I.cap = 0
    · by_cases z1 : I.items.length = 0
      · by_cases z4 : I.size = 0
        · by_cases z3 : I.sets.length = 0
          · have ho : I.others = false := not_true fun h => by have := OI.1 h; omega
            by_cases l6 : I.cost.length ≤ 64
            · by_cases z2 : I.cost.length = 0
              · rw [In.chk_sized k1 k2 ho (not_true fun h => by have := SI.1 h; omega), hK2, z0, z1, z2, z4, z3]
                exact rc_k2f _ _ _ _ _ _ _
              · rw [chk_rest k1 k2 ho (SI.2 (by omega)), hK2, z0, z1, z4, z3]
                rw [z1] at hi
                rw [z3] at hs
                exact rc_full2 F G I _ _ _ _ _ _ uc us w hi hc hs hK2 z0 z4 (by omega) l6
            · rw [In.chk_sized k1 k2 ho (not_true fun h => by have := SI.1 h; omega), hK2, z0, z1, z4, z3]
              exact rc_k2e _ _ _ _ _ _ _ _ (by omega)
          · rw [In.chk_others k1 k2 (OI.2 (by omega)), hK2, z0, z1, z4]
            exact rc_k2d _ _ _ _ _ _ _ _ _ (by omega)
        · rw [In.chk_others k1 k2 (OI.2 (by omega)), hK2, z0, z1]
          exact rc_k2c _ _ _ _ _ _ _ _ _ _ z4
      · rw [In.chk_others k1 k2 (OI.2 (by omega)), hK2, z0]
        exact rc_k2b _ _ _ _ _ _ _ _ _ _ _ (by omega)
    · rw [In.chk_others k1 k2 (OI.2 (by omega)), hK2]
      exact rc_k2a _ _ _ _ _ _ _ _ _ _ _ _ z0
/-- Its sum of three lengths. -/
theorem dec_sum {I : In} (h : I.chk = 0) : I.dec = if I.kind = 2 then (I.cost.length : Int) - 1 else (I.items.length : Int) + I.cost.length + I.sets.length := by
  obtain ⟨k1, k2, ho, hz⟩ := chk_good h
  have OI := others_iff I
  rw [ho] at OI
  have SI := (sized_iff I).1 hz
  rw [dec_good h]
  simp only [Bool.false_eq_true, false_iff] at OI
  by_cases h0 : I.kind = 0
  · rw [if_pos h0, if_neg (by omega)]
    omega
  · rw [if_neg h0]
    by_cases h1 : I.kind = 1
    · rw [if_pos h1, if_neg (by omega)]
      omega
    · rw [if_neg h1]
      by_cases h2 : I.kind = 2
      · rw [if_pos h2, if_pos h2]
      · rw [if_neg h2, if_neg h2]
        omega
theorem chk_lens {I : In} (h : I.chk = 0) : I.items.length ≤ 4096 ∧ I.cost.length ≤ 64 ∧ I.sets.length ≤ 4096 ∧ (I.kind = 2 → 1 ≤ I.cost.length) := by
  obtain ⟨k1, k2, ho, hz⟩ := chk_good h
  have SI := (sized_iff I).1 hz
  omega

end Go.Proofs.YtbadingdklenhaaGreatDoor
