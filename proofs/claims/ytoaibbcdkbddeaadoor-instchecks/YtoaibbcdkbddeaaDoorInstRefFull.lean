/-
  The document's Check (layer 9): what it asks of the lists, of each kind. Written by tools/genrefcheck.py.
-/
import Derived.Test.YtoaibbcdkbddeaaDoorInstRef
namespace Go.Proofs.YtoaibbcdkbddeaaDoor
set_option maxRecDepth 100000
open Go.RowKit


/-- What is left behind the second question. -/
def rest (I : In) : Int := if I.formed = false then 4 else if I.fine = false then 22 else if I.kind = 2 ∧ hol 0 I.cost = false then 4 else 0
theorem rest_form (I : In) : rest I = if I.formed = false then 4 else if I.fine = false then 22 else if I.kind = 2 ∧ hol 0 I.cost = false then 4 else 0 := rfl

set_option maxHeartbeats 2000000 in
theorem rc_full0 (F G : Nat → Prop) (I : In) (A0 A A2 : Option Addr) (C0 C C2 : Nat) (uc us : List Value) (w : World) (hi : Its F w (.slice A0 I.items.length C0) I.items) (hc : Rws F G w (.slice A 0 C) I.cost uc) (hs : Sts F G w (.slice A2 0 C2) I.sets us) (hK : I.kind = 0) (z4 : I.size = 0) (l1 : I.items.length ≤ 4096) :
    Calls Tryd.prog 10 #[.agg #[.int .i64 0, .int .i64 I.cap, .slice A0 I.items.length C0, .slice A 0 C, .int .i64 0, .slice A2 0 C2]] w fun e w' => e = .returned (.int .i64 (rest I)) ∧ Below w.heap.size w w' := by
  have NU := fun W a b c => numbers_any F G I (.slice A0 I.items.length C0) (.slice A 0 C) (.slice A2 0 C2) uc us W a b c
  unfold inV at NU
  rw [hK, z4] at NU
  obtain ⟨_, _, ei, hC0, hM0⟩ := hi.form
  obtain ⟨_, _, ec, hC, hM⟩ := hc.form
  obtain ⟨_, _, es, hC2, hM2⟩ := hs.form
  simp only [Value.slice.injEq, true_and, eq_comm] at ei ec es
  unfold maxLen at hM hM2 hM0
  have HNC : Hid (I.cost.length = 0) := ec.2.1
  have HNS : Hid (I.sets.length = 0) := es.2.1
  have nb := new_below w (.cells #[.int .i64 0, .int .i64 I.cap, .slice A0 I.items.length C0, .slice A 0 C, .int .i64 0, .slice A2 0 C2] 36)
  have HI := Lib.hid (hi.next nb)
  have HC := Lib.hid (hc.next nb)
  have HS := Lib.hid (hs.next nb)
  have HB := Lib.hid nb
  have HX := Lib.hid (ibox_new w (.int .i64 0) (.int .i64 I.cap) (.slice A0 I.items.length C0) (.slice A 0 C) (.int .i64 0) (.slice A2 0 C2) 36)
  obtain ⟨T, hT⟩ : ∃ T, rest I = T := ⟨_, rfl⟩
  rw [hT]
  have HT := Lib.hid hT.symm
  have HK := Lib.hid hK
  clear hi hc hs nb hT hK ei ec es z4
  have d1 : ¬ (4096 : Int) < (I.items.length : Int) := by omega
  go_enter Tryd.func10, Tryd.ntmps10
  go_wp2
  clear d1
  obtain ⟨w1, hw1⟩ : ∃ q, q = w.alloc (.cells #[.int .i64 0, .int .i64 I.cap, .slice A0 I.items.length C0, .slice A 0 C, .int .i64 0, .slice A2 0 C2] 36) := ⟨_, rfl⟩
  rw [← hw1] at HI HC HS HB HX ⊢
  clear hw1
  go_loopw [4] (fun i wr => i = .int .i64 0 ∧ wr = w1) (fun _ _ => 0)
  case atStart => first | exact ⟨rfl, rfl⟩ | exact ⟨rfl, trivial⟩ | exact trivial
  case round =>
    obtain ⟨rfl, hwr⟩ := hrel
    subst hwr
    obtain ⟨x0, x1, x2, x3, x4, x5⟩ := HX.out
    have HR : Hid (true = I.cost.all (fun r => decide (r.length = I.cost.length))) := by show _ = _; rw [List.eq_nil_of_length_eq_zero HNC.out]; rfl
    have HBk := Lib.hid HB.out
    have HIk := Lib.hid HI.out
    have HCk := Lib.hid HC.out
    have HSk := Lib.hid HS.out
    have HXk := Lib.hid HX.out
    clear HI HC HS HX
    go_wp2
    obtain ⟨w2, hw2⟩ : ∃ q, q = wr := ⟨wr, rfl⟩
    subst hw2
    clear x0 x1 x2 x3 x4 x5
    go_loopw [5] (fun i wr => i = .int .i64 0 ∧ wr = w2) (fun _ _ => 0)
    case atStart => first | exact ⟨rfl, rfl⟩ | exact ⟨rfl, trivial⟩ | exact trivial
    case round =>
      obtain ⟨rfl, hwr⟩ := hrel
      subst hwr
      obtain ⟨x0, x1, x2, x3, x4, x5⟩ := HXk.out
      have HR2 : Hid (I.formed = true) := by show _ = _; unfold In.formed; rw [← HR.out, List.eq_nil_of_length_eq_zero HNS.out]; rfl
      have HIl := Lib.hid HIk.out
      have HCl := Lib.hid HCk.out
      have HSl := Lib.hid HSk.out
      have HXl := Lib.hid HXk.out
      have HBl := Lib.hid HBk.out
      go_wp2_with fail
      with_reducible refine (NU _ HIl.out HCl.out HSl.out).mono ?_
      rintro e w4 ⟨rfl, b4⟩
      have HC4 := Lib.hid (HCl.out.next b4)
      have HX4 := Lib.hid (HXl.out.next b4)
      have HB4 := Lib.hid (on HBl.out b4)
      clear b4 HIl HCl HSl HXl HBl x0 x1 x2 x3 x4 x5 NU
      by_cases hf : I.fine = false
      · have HR3 : Hid (T = 22) := by show _ = _; rw [HT.out]; unfold rest; rw [if_neg (by rw [HR2.out]; simp), if_pos hf]
        rw [hf]
        clear hf
        go_wp2
        go_ret
        exact ⟨by rw [HR3.out]; rfl, HB4.out⟩
      have hf : I.fine = true := by simpa using hf
      have HFI := Lib.hid hf
      rw [hf]
      clear hf
      go_wp2
      go_loopw [9] (fun i wr => i = .int .i64 0 ∧ wr = w4) (fun _ _ => 0)
      case atStart => first | exact ⟨rfl, rfl⟩ | exact ⟨rfl, trivial⟩ | exact trivial
      case round =>
        obtain ⟨rfl, hwr⟩ := hrel
        subst hwr
        obtain ⟨x0, x1, x2, x3, x4, x5⟩ := HX4.out
        have HR5 : Hid (T = 0) := by show _ = _; rw [HT.out]; unfold rest; rw [if_neg (by rw [HR2.out]; simp), if_neg (by rw [HFI.out]; simp), if_neg (by rw [HK.out]; omega)]
        go_wp2
        go_ret
        exact ⟨by rw [HR5.out]; rfl, HB4.out⟩

set_option maxHeartbeats 2000000 in
theorem rc_full1 (F G : Nat → Prop) (I : In) (A0 A A2 : Option Addr) (C0 C C2 : Nat) (uc us : List Value) (w : World) (hi : Its F w (.slice A0 0 C0) I.items) (hc : Rws F G w (.slice A I.cost.length C) I.cost uc) (hs : Sts F G w (.slice A2 0 C2) I.sets us) (hK : I.kind = 1) (z0 : I.cap = 0) (z4 : I.size = 0) (l2 : 1 ≤ I.cost.length) (l6 : I.cost.length ≤ 64) :
    Calls Tryd.prog 10 #[.agg #[.int .i64 1, .int .i64 0, .slice A0 0 C0, .slice A I.cost.length C, .int .i64 0, .slice A2 0 C2]] w fun e w' => e = .returned (.int .i64 (rest I)) ∧ Below w.heap.size w w' := by
  have NU := fun W a b c => numbers_any F G I (.slice A0 0 C0) (.slice A I.cost.length C) (.slice A2 0 C2) uc us W a b c
  unfold inV at NU
  rw [hK, z0, z4] at NU
  obtain ⟨_, _, ei, hC0, hM0⟩ := hi.form
  obtain ⟨_, _, ec, hC, hM⟩ := hc.form
  obtain ⟨_, _, es, hC2, hM2⟩ := hs.form
  simp only [Value.slice.injEq, true_and, eq_comm] at ei ec es
  unfold maxLen at hM hM2 hM0
  have HNI : Hid (I.items.length = 0) := ei.2.1
  have HNS : Hid (I.sets.length = 0) := es.2.1
  have nb := new_below w (.cells #[.int .i64 1, .int .i64 0, .slice A0 0 C0, .slice A I.cost.length C, .int .i64 0, .slice A2 0 C2] 36)
  have HI := Lib.hid (hi.next nb)
  have HC := Lib.hid (hc.next nb)
  have HS := Lib.hid (hs.next nb)
  have HB := Lib.hid nb
  have HX := Lib.hid (ibox_new w (.int .i64 1) (.int .i64 0) (.slice A0 0 C0) (.slice A I.cost.length C) (.int .i64 0) (.slice A2 0 C2) 36)
  obtain ⟨T, hT⟩ : ∃ T, rest I = T := ⟨_, rfl⟩
  rw [hT]
  have HT := Lib.hid hT.symm
  have HK := Lib.hid hK
  clear hi hc hs nb hT hK ei ec es z0 z4
  have d2 : ¬ (64 : Int) < (I.cost.length : Int) := by omega
  have d6 : ((I.cost.length : Int) == 0) = false := by rw [beq_eq_false_iff_ne]; omega
  go_enter Tryd.func10, Tryd.ntmps10
  go_wp2
  clear d2 d6
  obtain ⟨w1, hw1⟩ : ∃ q, q = w.alloc (.cells #[.int .i64 1, .int .i64 0, .slice A0 0 C0, .slice A I.cost.length C, .int .i64 0, .slice A2 0 C2] 36) := ⟨_, rfl⟩
  rw [← hw1] at HI HC HS HB HX ⊢
  clear hw1
  go_loopw [4] (fun i wr => ∃ (k : Nat), k ≤ I.cost.length ∧ i = .int .i64 (k : Nat) ∧ Hid (Below w1.heap.size w1 wr) ∧ Hid ((I.cost.drop k).all (fun r => decide (r.length = I.cost.length)) = I.cost.all (fun r => decide (r.length = I.cost.length)))) (fun i _ => I.cost.length - (intOf i).toNat)
  case atStart => exact ⟨0, by omega, rfl, Below.refl _ _, rfl⟩
  case round =>
    obtain ⟨k, hk, rfl, hB, hQ⟩ := hrel
    have HBk := Lib.hid (on HB.out hB.out)
    obtain ⟨x0, x1, x2, x3, x4, x5⟩ := HX.out.next hB.out
    by_cases hlt : k < I.cost.length
    · obtain ⟨b, off, r, A', C', rfl, _, hb, hr, c0, _, hC', hM', hI⟩ := (HC.out.next hB.out).get hlt
      have hq := hQ.out
      rw [all_drop hr] at hq
      have c01 : (0 : Int) ≤ (k : Int) := by omega
      have c02 : (k : Int) < (I.cost.length : Int) := by omega
      have HBB := hB
      by_cases h1 : r.length = I.cost.length
      · have HR : Hid ((I.cost.drop (k + 1)).all (fun r => decide (r.length = I.cost.length)) = I.cost.all (fun r => decide (r.length = I.cost.length))) := by show _ = _; rw [← hq]; simp [h1]
        rw [h1] at c0
        clear hQ hq hI hr h1 hB
        go_wp2
        go_quiet (fail)
        go_wp2
        go_roundw
        case rel => exact ⟨k + 1, by omega, by go_num, below_drewN HBB.out _, HR⟩
        case measure => simp [intOf]; omega
      · have HR : Hid (I.formed = false) := by
          show _ = _
          unfold In.formed
          rw [← hq]; simp [h1]
        have HR2 : Hid (T = 4) := by show _ = _; rw [HT.out]; exact if_pos HR.out
        have h2 : ((r.length : Int) == (I.cost.length : Int)) = false := by rw [beq_eq_false_iff_ne]; omega
        clear hQ hq hI hr hB
        go_wp2
        go_quiet (fail)
        go_wp2
        go_ret
        exact ⟨by rw [HR2.out]; rfl, below_drewN HBk.out _⟩
    · obtain rfl : k = I.cost.length := by omega
      have hq := hQ.out
      rw [all_done] at hq
      have HR := Lib.hid hq
      have HIk := Lib.hid (HI.out.next hB.out)
      have HCk := Lib.hid (HC.out.next hB.out)
      have HSk := Lib.hid (HS.out.next hB.out)
      have HXk := Lib.hid (HX.out.next hB.out)
      clear hq hQ hB HI HC HS HX
      go_wp2
      obtain ⟨w2, hw2⟩ : ∃ q, q = wr := ⟨wr, rfl⟩
      subst hw2
      clear x0 x1 x2 x3 x4 x5
      go_loopw [5] (fun i wr => i = .int .i64 0 ∧ wr = w2) (fun _ _ => 0)
      case atStart => first | exact ⟨rfl, rfl⟩ | exact ⟨rfl, trivial⟩ | exact trivial
      case round =>
        obtain ⟨rfl, hwr⟩ := hrel
        subst hwr
        obtain ⟨x0, x1, x2, x3, x4, x5⟩ := HXk.out
        have HR2 : Hid (I.formed = true) := by show _ = _; unfold In.formed; rw [← HR.out, List.eq_nil_of_length_eq_zero HNS.out]; rfl
        have HIl := Lib.hid HIk.out
        have HCl := Lib.hid HCk.out
        have HSl := Lib.hid HSk.out
        have HXl := Lib.hid HXk.out
        have HBl := Lib.hid HBk.out
        go_wp2_with fail
        with_reducible refine (NU _ HIl.out HCl.out HSl.out).mono ?_
        rintro e w4 ⟨rfl, b4⟩
        have HC4 := Lib.hid (HCl.out.next b4)
        have HX4 := Lib.hid (HXl.out.next b4)
        have HB4 := Lib.hid (on HBl.out b4)
        clear b4 HIl HCl HSl HXl HBl x0 x1 x2 x3 x4 x5 NU
        by_cases hf : I.fine = false
        · have HR3 : Hid (T = 22) := by show _ = _; rw [HT.out]; unfold rest; rw [if_neg (by rw [HR2.out]; simp), if_pos hf]
          rw [hf]
          clear hf
          go_wp2
          go_ret
          exact ⟨by rw [HR3.out]; rfl, HB4.out⟩
        have hf : I.fine = true := by simpa using hf
        have HFI := Lib.hid hf
        rw [hf]
        clear hf
        go_wp2
        go_loopw [9] (fun i wr => i = .int .i64 0 ∧ wr = w4) (fun _ _ => 0)
        case atStart => first | exact ⟨rfl, rfl⟩ | exact ⟨rfl, trivial⟩ | exact trivial
        case round =>
          obtain ⟨rfl, hwr⟩ := hrel
          subst hwr
          obtain ⟨x0, x1, x2, x3, x4, x5⟩ := HX4.out
          have HR5 : Hid (T = 0) := by show _ = _; rw [HT.out]; unfold rest; rw [if_neg (by rw [HR2.out]; simp), if_neg (by rw [HFI.out]; simp), if_neg (by rw [HK.out]; omega)]
          have hn2 : (0 : Int) < (I.cost.length : Int) := by omega
          go_wp2
          go_ret
          exact ⟨by rw [HR5.out]; rfl, HB4.out⟩

set_option maxHeartbeats 2000000 in
theorem rc_full2 (F G : Nat → Prop) (I : In) (A0 A A2 : Option Addr) (C0 C C2 : Nat) (uc us : List Value) (w : World) (hi : Its F w (.slice A0 0 C0) I.items) (hc : Rws F G w (.slice A I.cost.length C) I.cost uc) (hs : Sts F G w (.slice A2 0 C2) I.sets us) (hK : I.kind = 2) (z0 : I.cap = 0) (z4 : I.size = 0) (l2 : 1 ≤ I.cost.length) (l6 : I.cost.length ≤ 64) :
    Calls Tryd.prog 10 #[.agg #[.int .i64 2, .int .i64 0, .slice A0 0 C0, .slice A I.cost.length C, .int .i64 0, .slice A2 0 C2]] w fun e w' => e = .returned (.int .i64 (rest I)) ∧ Below w.heap.size w w' := by
  have NU := fun W a b c => numbers_any F G I (.slice A0 0 C0) (.slice A I.cost.length C) (.slice A2 0 C2) uc us W a b c
  unfold inV at NU
  rw [hK, z0, z4] at NU
  obtain ⟨_, _, ei, hC0, hM0⟩ := hi.form
  obtain ⟨_, _, ec, hC, hM⟩ := hc.form
  obtain ⟨_, _, es, hC2, hM2⟩ := hs.form
  simp only [Value.slice.injEq, true_and, eq_comm] at ei ec es
  unfold maxLen at hM hM2 hM0
  have HNI : Hid (I.items.length = 0) := ei.2.1
  have HNS : Hid (I.sets.length = 0) := es.2.1
  have nb := new_below w (.cells #[.int .i64 2, .int .i64 0, .slice A0 0 C0, .slice A I.cost.length C, .int .i64 0, .slice A2 0 C2] 36)
  have HI := Lib.hid (hi.next nb)
  have HC := Lib.hid (hc.next nb)
  have HS := Lib.hid (hs.next nb)
  have HB := Lib.hid nb
  have HX := Lib.hid (ibox_new w (.int .i64 2) (.int .i64 0) (.slice A0 0 C0) (.slice A I.cost.length C) (.int .i64 0) (.slice A2 0 C2) 36)
  obtain ⟨T, hT⟩ : ∃ T, rest I = T := ⟨_, rfl⟩
  rw [hT]
  have HT := Lib.hid hT.symm
  have HK := Lib.hid hK
  clear hi hc hs nb hT hK ei ec es z0 z4
  have d2 : ¬ (64 : Int) < (I.cost.length : Int) := by omega
  have d6 : ((I.cost.length : Int) == 0) = false := by rw [beq_eq_false_iff_ne]; omega
  go_enter Tryd.func10, Tryd.ntmps10
  go_wp2
  clear d2 d6
  obtain ⟨w1, hw1⟩ : ∃ q, q = w.alloc (.cells #[.int .i64 2, .int .i64 0, .slice A0 0 C0, .slice A I.cost.length C, .int .i64 0, .slice A2 0 C2] 36) := ⟨_, rfl⟩
  rw [← hw1] at HI HC HS HB HX ⊢
  clear hw1
  go_loopw [4] (fun i wr => ∃ (k : Nat), k ≤ I.cost.length ∧ i = .int .i64 (k : Nat) ∧ Hid (Below w1.heap.size w1 wr) ∧ Hid ((I.cost.drop k).all (fun r => decide (r.length = I.cost.length)) = I.cost.all (fun r => decide (r.length = I.cost.length)))) (fun i _ => I.cost.length - (intOf i).toNat)
  case atStart => exact ⟨0, by omega, rfl, Below.refl _ _, rfl⟩
  case round =>
    obtain ⟨k, hk, rfl, hB, hQ⟩ := hrel
    have HBk := Lib.hid (on HB.out hB.out)
    obtain ⟨x0, x1, x2, x3, x4, x5⟩ := HX.out.next hB.out
    by_cases hlt : k < I.cost.length
    · obtain ⟨b, off, r, A', C', rfl, _, hb, hr, c0, _, hC', hM', hI⟩ := (HC.out.next hB.out).get hlt
      have hq := hQ.out
      rw [all_drop hr] at hq
      have c01 : (0 : Int) ≤ (k : Int) := by omega
      have c02 : (k : Int) < (I.cost.length : Int) := by omega
      have HBB := hB
      by_cases h1 : r.length = I.cost.length
      · have HR : Hid ((I.cost.drop (k + 1)).all (fun r => decide (r.length = I.cost.length)) = I.cost.all (fun r => decide (r.length = I.cost.length))) := by show _ = _; rw [← hq]; simp [h1]
        rw [h1] at c0
        clear hQ hq hI hr h1 hB
        go_wp2
        go_quiet (fail)
        go_wp2
        go_roundw
        case rel => exact ⟨k + 1, by omega, by go_num, below_drewN HBB.out _, HR⟩
        case measure => simp [intOf]; omega
      · have HR : Hid (I.formed = false) := by
          show _ = _
          unfold In.formed
          rw [← hq]; simp [h1]
        have HR2 : Hid (T = 4) := by show _ = _; rw [HT.out]; exact if_pos HR.out
        have h2 : ((r.length : Int) == (I.cost.length : Int)) = false := by rw [beq_eq_false_iff_ne]; omega
        clear hQ hq hI hr hB
        go_wp2
        go_quiet (fail)
        go_wp2
        go_ret
        exact ⟨by rw [HR2.out]; rfl, below_drewN HBk.out _⟩
    · obtain rfl : k = I.cost.length := by omega
      have hq := hQ.out
      rw [all_done] at hq
      have HR := Lib.hid hq
      have HIk := Lib.hid (HI.out.next hB.out)
      have HCk := Lib.hid (HC.out.next hB.out)
      have HSk := Lib.hid (HS.out.next hB.out)
      have HXk := Lib.hid (HX.out.next hB.out)
      clear hq hQ hB HI HC HS HX
      go_wp2
      obtain ⟨w2, hw2⟩ : ∃ q, q = wr := ⟨wr, rfl⟩
      subst hw2
      clear x0 x1 x2 x3 x4 x5
      go_loopw [5] (fun i wr => i = .int .i64 0 ∧ wr = w2) (fun _ _ => 0)
      case atStart => first | exact ⟨rfl, rfl⟩ | exact ⟨rfl, trivial⟩ | exact trivial
      case round =>
        obtain ⟨rfl, hwr⟩ := hrel
        subst hwr
        obtain ⟨x0, x1, x2, x3, x4, x5⟩ := HXk.out
        have HR2 : Hid (I.formed = true) := by show _ = _; unfold In.formed; rw [← HR.out, List.eq_nil_of_length_eq_zero HNS.out]; rfl
        have HIl := Lib.hid HIk.out
        have HCl := Lib.hid HCk.out
        have HSl := Lib.hid HSk.out
        have HXl := Lib.hid HXk.out
        have HBl := Lib.hid HBk.out
        go_wp2_with fail
        with_reducible refine (NU _ HIl.out HCl.out HSl.out).mono ?_
        rintro e w4 ⟨rfl, b4⟩
        have HC4 := Lib.hid (HCl.out.next b4)
        have HX4 := Lib.hid (HXl.out.next b4)
        have HB4 := Lib.hid (on HBl.out b4)
        clear b4 HIl HCl HSl HXl HBl x0 x1 x2 x3 x4 x5 NU
        by_cases hf : I.fine = false
        · have HR3 : Hid (T = 22) := by show _ = _; rw [HT.out]; unfold rest; rw [if_neg (by rw [HR2.out]; simp), if_pos hf]
          rw [hf]
          clear hf
          go_wp2
          go_ret
          exact ⟨by rw [HR3.out]; rfl, HB4.out⟩
        have hf : I.fine = true := by simpa using hf
        have HFI := Lib.hid hf
        rw [hf]
        clear hf
        go_wp2
        go_loopw [9] (fun i wr => ∃ (k : Nat), k ≤ I.cost.length ∧ i = .int .i64 (k : Nat) ∧ wr = w4 ∧ Hid (hol k (I.cost.drop k) = hol 0 I.cost)) (fun i _ => I.cost.length - (intOf i).toNat)
        case atStart => exact ⟨0, by omega, rfl, rfl, rfl⟩
        case round =>
          obtain ⟨k, hk, rfl, rfl, hQ⟩ := hrel
          obtain ⟨x0, x1, x2, x3, x4, x5⟩ := HX4.out
          by_cases hlt : k < I.cost.length
          · obtain ⟨b, off, r, A', C', rfl, _, hb, hr, c0, _, hC', hM', hI⟩ := HC4.out.get hlt
            have hrl := In.formed_row HR2.out hr
            obtain ⟨b', off', x, rfl, _, hb', hx, c1⟩ := hI.get (i := k) (by omega)
            have hq := hQ.out
            rw [hol_drop hr, show r.getD k 0 = x by rw [List.getD_eq_getElem?_getD, hx]; rfl] at hq
            rw [hrl] at c0
            have c01 : (0 : Int) ≤ (k : Int) := by omega
            have c02 : (k : Int) < (I.cost.length : Int) := by omega
            by_cases h1 : x = 0
            · have HR : Hid (hol (k + 1) (I.cost.drop (k + 1)) = hol 0 I.cost) := by show _ = _; rw [← hq]; simp [h1]
              clear hQ hq hx hI hr hrl
              go_wp2
              go_roundw
              case rel => exact ⟨k + 1, by omega, by go_num, trivial, HR⟩
              case measure => simp [intOf]; omega
            · have HR : Hid (hol 0 I.cost = false) := by show _ = _; rw [← hq]; simp [h1]
              have HR5 : Hid (T = 4) := by show _ = _; rw [HT.out]; unfold rest; rw [if_neg (by rw [HR2.out]; simp), if_neg (by rw [HFI.out]; simp), if_pos ⟨HK.out, HR.out⟩]
              clear hQ hq hx hI hr hrl
              go_wp2
              go_ret
              exact ⟨by rw [HR5.out]; rfl, HB4.out⟩
          · obtain rfl : k = I.cost.length := by omega
            have hq := hQ.out
            rw [List.drop_eq_nil_of_le (Nat.le_refl _)] at hq
            simp only [hol] at hq
            have HR5 : Hid (T = 0) := by show _ = _; rw [HT.out]; unfold rest; rw [if_neg (by rw [HR2.out]; simp), if_neg (by rw [HFI.out]; simp), if_neg (by rw [← hq]; simp)]
            clear hq hQ
            go_wp2
            go_ret
            exact ⟨by rw [HR5.out]; rfl, HB4.out⟩

set_option maxHeartbeats 2000000 in
theorem rc_full3 (F G : Nat → Prop) (I : In) (A0 A A2 : Option Addr) (C0 C C2 : Nat) (uc us : List Value) (w : World) (hi : Its F w (.slice A0 0 C0) I.items) (hc : Rws F G w (.slice A 0 C) I.cost uc) (hs : Sts F G w (.slice A2 I.sets.length C2) I.sets us) (hK : I.kind = 3) (z0 : I.cap = 0) (l3 : I.sets.length ≤ 4096) (l4 : 0 ≤ I.size) (l5 : I.size ≤ 4096) :
    Calls Tryd.prog 10 #[.agg #[.int .i64 3, .int .i64 0, .slice A0 0 C0, .slice A 0 C, .int .i64 I.size, .slice A2 I.sets.length C2]] w fun e w' => e = .returned (.int .i64 (rest I)) ∧ Below w.heap.size w w' := by
  have NU := fun W a b c => numbers_any F G I (.slice A0 0 C0) (.slice A 0 C) (.slice A2 I.sets.length C2) uc us W a b c
  unfold inV at NU
  rw [hK, z0] at NU
  obtain ⟨_, _, ei, hC0, hM0⟩ := hi.form
  obtain ⟨_, _, ec, hC, hM⟩ := hc.form
  obtain ⟨_, _, es, hC2, hM2⟩ := hs.form
  simp only [Value.slice.injEq, true_and, eq_comm] at ei ec es
  unfold maxLen at hM hM2 hM0
  have HNI : Hid (I.items.length = 0) := ei.2.1
  have HNC : Hid (I.cost.length = 0) := ec.2.1
  have nb := new_below w (.cells #[.int .i64 3, .int .i64 0, .slice A0 0 C0, .slice A 0 C, .int .i64 I.size, .slice A2 I.sets.length C2] 36)
  have HI := Lib.hid (hi.next nb)
  have HC := Lib.hid (hc.next nb)
  have HS := Lib.hid (hs.next nb)
  have HB := Lib.hid nb
  have HX := Lib.hid (ibox_new w (.int .i64 3) (.int .i64 0) (.slice A0 0 C0) (.slice A 0 C) (.int .i64 I.size) (.slice A2 I.sets.length C2) 36)
  obtain ⟨T, hT⟩ : ∃ T, rest I = T := ⟨_, rfl⟩
  rw [hT]
  have HT := Lib.hid hT.symm
  have HK := Lib.hid hK
  clear hi hc hs nb hT hK ei ec es z0
  have d3 : ¬ (4096 : Int) < (I.sets.length : Int) := by omega
  have d4 : ¬ I.size < 0 := by omega
  have d5 : ¬ 4096 < I.size := by omega
  go_enter Tryd.func10, Tryd.ntmps10
  go_wp2
  clear d3 d4 d5
  obtain ⟨w1, hw1⟩ : ∃ q, q = w.alloc (.cells #[.int .i64 3, .int .i64 0, .slice A0 0 C0, .slice A 0 C, .int .i64 I.size, .slice A2 I.sets.length C2] 36) := ⟨_, rfl⟩
  rw [← hw1] at HI HC HS HB HX ⊢
  clear hw1
  go_loopw [4] (fun i wr => i = .int .i64 0 ∧ wr = w1) (fun _ _ => 0)
  case atStart => first | exact ⟨rfl, rfl⟩ | exact ⟨rfl, trivial⟩ | exact trivial
  case round =>
    obtain ⟨rfl, hwr⟩ := hrel
    subst hwr
    obtain ⟨x0, x1, x2, x3, x4, x5⟩ := HX.out
    have HR : Hid (true = I.cost.all (fun r => decide (r.length = I.cost.length))) := by show _ = _; rw [List.eq_nil_of_length_eq_zero HNC.out]; rfl
    have HBk := Lib.hid HB.out
    have HIk := Lib.hid HI.out
    have HCk := Lib.hid HC.out
    have HSk := Lib.hid HS.out
    have HXk := Lib.hid HX.out
    clear HI HC HS HX
    go_wp2
    obtain ⟨w2, hw2⟩ : ∃ q, q = wr := ⟨wr, rfl⟩
    subst hw2
    clear x0 x1 x2 x3 x4 x5
    go_loopw [5] (fun i wr => ∃ (k : Nat), k ≤ I.sets.length ∧ i = .int .i64 (k : Nat) ∧ Hid (Below w2.heap.size w2 wr) ∧ Hid ((I.sets.drop k).all (fun s => ris I.size 0 s.2) = I.sets.all (fun s => ris I.size 0 s.2))) (fun i _ => I.sets.length - (intOf i).toNat)
    case atStart => exact ⟨0, by omega, rfl, Below.refl _ _, rfl⟩
    case round =>
      obtain ⟨k, hk, rfl, hB, hQ⟩ := hrel
      obtain ⟨x0, x1, x2, x3, x4, x5⟩ := HXk.out.next hB.out
      by_cases hlt : k < I.sets.length
      · obtain ⟨b, off, s, A', C', rfl, _, hb, hs, c0, c1, _, hC', hM', hI⟩ := (HSk.out.next hB.out).get hlt
        have hq := hQ.out
        rw [all_drop hs] at hq
        have HQ := Lib.hid hq
        have HII := Lib.hid hI
        have HBB := Lib.hid (on HBk.out hB.out)
        have HBr := Lib.hid hB.out
        have HXr := Lib.hid (HXk.out.next hB.out)
        have c01 : (0 : Int) ≤ (k : Int) := by omega
        have c02 : (k : Int) < (I.sets.length : Int) := by omega
        unfold maxLen at hM'
        clear hQ hq hI hs hB
        go_wp2
        obtain ⟨w3, hw3⟩ : ∃ q, q = wr := ⟨wr, rfl⟩
        subst hw3
        clear x0 x1 x2 x3 x4 x5 c0 c1
        go_loopw [7] (fun i wr => ∃ (j : Nat) (z : Int), j ≤ s.2.length ∧ i = .int .i64 (j : Nat) ∧ Hid (0 ≤ z ∧ (j = 0 → z = 0) ∧ (∀ y, 0 < j → s.2[j - 1]? = some y → z = y + 1)) ∧ Hid (Below w3.heap.size w3 wr) ∧ Hid (ris I.size z (s.2.drop j) = ris I.size 0 s.2)) (fun i _ => s.2.length - (intOf i).toNat)
        case atStart => exact ⟨0, 0, by omega, rfl, ⟨by omega, fun _ => rfl, fun _ h => by omega⟩, Below.refl _ _, rfl⟩
        case round =>
          obtain ⟨j, z, hj, rfl, hz, hB, hQ⟩ := hrel
          obtain ⟨x0, x1, x2, x3, x4, x5⟩ := HXr.out.next hB.out
          by_cases hlj : j < s.2.length
          · obtain ⟨b', off', x, rfl, _, hb', hx, e1⟩ := (HII.out.next hB.out).get hlj
            have hq := hQ.out
            obtain ⟨hi, hxi⟩ := List.getElem?_eq_some_iff.1 hx
            rw [List.drop_eq_getElem_cons hi, hxi] at hq
            simp only [ris] at hq
            have HQ2 := Lib.hid hq
            have HXX := Lib.hid hx
            have d01 : (0 : Int) ≤ (j : Int) := by omega
            have d02 : (j : Int) < (s.2.length : Int) := by omega
            clear hQ hq hxi hx
            -- where it isn't as it must be
            have bad : ris I.size 0 s.2 = false → T = 4 := by
              intro h
              have e : I.formed = false := by
                unfold In.formed
                rw [← HQ.out, h]; simp
              rw [HT.out]; exact if_pos e
            have HBAD := Lib.hid bad
            clear bad
            by_cases h1 : x < 0
            · have hd1 : decide (x < 0) = true := decide_eq_true h1
              have HR2 : Hid (T = 4) := HBAD.out (by rw [← HQ2.out]; simp; intro h; have := hz.out.1; omega)
              have HBf := Lib.hid (on HBB.out hB.out)
              clear hB
              go_wp2
              go_quiet (fail)
              go_wp2
              go_ret
              exact ⟨by rw [HR2.out]; rfl, below_drewN HBf.out _⟩
            · have hd1 : decide (x < 0) = false := decide_eq_false h1
              by_cases h2 : I.size ≤ x
              · have hd2 : decide (I.size ≤ x) = true := decide_eq_true h2
                have HR2 : Hid (T = 4) := HBAD.out (by rw [← HQ2.out]; simp; intro h; omega)
                have HBf := Lib.hid (on HBB.out hB.out)
                clear hB
                go_wp2
                go_quiet (fail)
                go_wp2
                go_ret
                exact ⟨by rw [HR2.out]; rfl, below_drewN HBf.out _⟩
              · have hd2 : decide (I.size ≤ x) = false := decide_eq_false h2
                by_cases h0 : j = 0
                · have hz0 := hz.out.2.1 h0
                  have hd3 : decide (0 < j) = false := decide_eq_false (by omega)
                  have HR3 : Hid (ris I.size (x + 1) (s.2.drop (j + 1)) = ris I.size 0 s.2) := by show _ = _; rw [← HQ2.out, hz0]; simp; omega
                  have HZ3 : Hid (0 ≤ x + 1 ∧ (j + 1 = 0 → x + 1 = 0) ∧ (∀ y, 0 < j + 1 → s.2[j + 1 - 1]? = some y → x + 1 = y + 1)) := ⟨by omega, fun h => by omega, fun y _ hy => by rw [show j + 1 - 1 = j by omega, HXX.out] at hy; cases hy; rfl⟩
                  have HBf := Lib.hid hB.out
                  clear hB hz hz0 h0
                  go_wp2
                  go_quiet (fail)
                  go_wp2
                  go_roundw
                  case rel => exact ⟨j + 1, x + 1, by omega, by go_num, HZ3, below_drewN HBf.out _, HR3⟩
                  case measure => simp [intOf]; omega
                · obtain ⟨M, hM1⟩ : ∃ M, M + 1 = j := ⟨j - 1, by omega⟩
                  obtain ⟨y, hy⟩ : ∃ y, s.2[M]? = some y := ⟨_, List.getElem?_eq_getElem (by omega)⟩
                  obtain ⟨b2, off2, y2, hbo, _, _, hy2, e2⟩ := (HII.out.next hB.out).get (i := M) (by omega)
                  obtain rfl : y2 = y := by rw [hy] at hy2; cases hy2; rfl
                  obtain ⟨rfl, rfl⟩ : b2 = b' ∧ off2 = off' := by simpa [eq_comm] using hbo
                  have hzy := hz.out.2.2 y2 (by omega) (by rw [show j - 1 = M by omega]; exact hy)
                  have hd3 : decide (0 < j) = true := decide_eq_true (by omega)
                  have kw : IntKind.i64.wrap ((j : Int) - 1) = (M : Int) := by rw [IntKind.wrap_i64]; omega
                  have j3 : (0 : Int) ≤ (M : Int) := by omega
                  have j4 : (M : Int) < (s.2.length : Int) := by omega
                  by_cases h3 : x ≤ y2
                  · have hd4 : decide (x ≤ y2) = true := decide_eq_true h3
                    have HR2 : Hid (T = 4) := HBAD.out (by rw [← HQ2.out]; simp; intro h; omega)
                    have HBf := Lib.hid (on HBB.out hB.out)
                    clear hB hz hzy hy hy2 hbo h0 hM1
                    go_wp2
                    go_quiet (fail)
                    go_wp2
                    go_ret
                    exact ⟨by rw [HR2.out]; rfl, below_drewN HBf.out _⟩
                  · have hd4 : decide (x ≤ y2) = false := decide_eq_false h3
                    have HR3 : Hid (ris I.size (x + 1) (s.2.drop (j + 1)) = ris I.size 0 s.2) := by show _ = _; rw [← HQ2.out, hzy]; simp; omega
                    have HZ3 : Hid (0 ≤ x + 1 ∧ (j + 1 = 0 → x + 1 = 0) ∧ (∀ y, 0 < j + 1 → s.2[j + 1 - 1]? = some y → x + 1 = y + 1)) := ⟨by omega, fun h => by omega, fun y _ hy => by rw [show j + 1 - 1 = j by omega, HXX.out] at hy; cases hy; rfl⟩
                    have HBf := Lib.hid hB.out
                    clear hB hz hzy hy hy2 hbo h0 hM1
                    go_wp2
                    go_quiet (fail)
                    go_wp2
                    go_roundw
                    case rel => exact ⟨j + 1, x + 1, by omega, by go_num, HZ3, below_drewN HBf.out _, HR3⟩
                    case measure => simp [intOf]; omega
          · obtain rfl : j = s.2.length := by omega
            have hq := hQ.out
            rw [List.drop_eq_nil_of_le (Nat.le_refl _)] at hq
            simp only [ris] at hq
            have HR3 : Hid ((I.sets.drop (k + 1)).all (fun s => ris I.size 0 s.2) = I.sets.all (fun s => ris I.size 0 s.2)) := by show _ = _; rw [← HQ.out, ← hq]; simp
            have HBf := Lib.hid (on HBr.out hB.out)
            clear hq hQ hB hz
            go_wp2
            go_roundw
            case rel => exact ⟨k + 1, by omega, by go_num, HBf, HR3⟩
            case measure => simp [intOf]; omega
      · obtain rfl : k = I.sets.length := by omega
        have hq := hQ.out
        rw [all_done] at hq
        have HR2 : Hid (I.formed = true) := by show _ = _; unfold In.formed; rw [← HR.out, ← hq]; rfl
        have HIl := Lib.hid (HIk.out.next hB.out)
        have HCl := Lib.hid (HCk.out.next hB.out)
        have HSl := Lib.hid (HSk.out.next hB.out)
        have HXl := Lib.hid (HXk.out.next hB.out)
        have HBl := Lib.hid (on HBk.out hB.out)
        clear hq hQ hB HIk HCk HSk HXk
        go_wp2_with fail
        with_reducible refine (NU _ HIl.out HCl.out HSl.out).mono ?_
        rintro e w4 ⟨rfl, b4⟩
        have HC4 := Lib.hid (HCl.out.next b4)
        have HX4 := Lib.hid (HXl.out.next b4)
        have HB4 := Lib.hid (on HBl.out b4)
        clear b4 HIl HCl HSl HXl HBl x0 x1 x2 x3 x4 x5 NU
        by_cases hf : I.fine = false
        · have HR3 : Hid (T = 22) := by show _ = _; rw [HT.out]; unfold rest; rw [if_neg (by rw [HR2.out]; simp), if_pos hf]
          rw [hf]
          clear hf
          go_wp2
          go_ret
          exact ⟨by rw [HR3.out]; rfl, HB4.out⟩
        have hf : I.fine = true := by simpa using hf
        have HFI := Lib.hid hf
        rw [hf]
        clear hf
        go_wp2
        go_loopw [9] (fun i wr => i = .int .i64 0 ∧ wr = w4) (fun _ _ => 0)
        case atStart => first | exact ⟨rfl, rfl⟩ | exact ⟨rfl, trivial⟩ | exact trivial
        case round =>
          obtain ⟨rfl, hwr⟩ := hrel
          subst hwr
          obtain ⟨x0, x1, x2, x3, x4, x5⟩ := HX4.out
          have HR5 : Hid (T = 0) := by show _ = _; rw [HT.out]; unfold rest; rw [if_neg (by rw [HR2.out]; simp), if_neg (by rw [HFI.out]; simp), if_neg (by rw [HK.out]; omega)]
          go_wp2
          go_ret
          exact ⟨by rw [HR5.out]; rfl, HB4.out⟩
end Go.Proofs.YtoaibbcdkbddeaaDoor
