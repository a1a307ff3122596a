/-
  What package inst's isBounded does (layer 9).
-/
import Derived.Test.YtbadingdklenhaaGreatDoorInstForm
namespace Go.Proofs.YtbadingdklenhaaGreatDoor
set_option maxRecDepth 100000
open Go.RowKit

/-- What isBounded asks of each list. -/
def itemsOk (l : List (Int × Int)) : Bool := l.all (fun p => amt p.1 && amt p.2)
def costOk (l : List (List Int)) : Bool := l.all (fun r => r.all mag)
def setsOk (l : List (Int × List Int)) : Bool := l.all (fun s => amt s.1)
theorem fine_eq (I : In) : I.fine = (amt I.cap && (itemsOk I.items && (costOk I.cost && setsOk I.sets))) := rfl
theorem itemsOk_drop {l : List (Int × Int)} {k : Nat} {x : Int × Int} (h : l[k]? = some x) : itemsOk (l.drop k) = ((amt x.1 && amt x.2) && itemsOk (l.drop (k + 1))) := all_drop h
theorem costOk_drop {l : List (List Int)} {k : Nat} {x : List Int} (h : l[k]? = some x) : costOk (l.drop k) = (x.all mag && costOk (l.drop (k + 1))) := all_drop h
theorem setsOk_drop {l : List (Int × List Int)} {k : Nat} {x : Int × List Int} (h : l[k]? = some x) : setsOk (l.drop k) = (amt x.1 && setsOk (l.drop (k + 1))) := all_drop h
theorem itemsOk_done {l : List (Int × Int)} : itemsOk (l.drop l.length) = true := all_done
theorem costOk_done {l : List (List Int)} : costOk (l.drop l.length) = true := all_done
theorem setsOk_done {l : List (Int × List Int)} : setsOk (l.drop l.length) = true := all_done

set_option maxHeartbeats 8000000 in
theorem isBounded_any (F G : Nat → Prop) (I : In) (vi vc vs : Value) (uc us : List Value) (w : World) (hi : Its F w vi I.items) (hc : Rws F G w vc I.cost uc) (hs : Sts F G w vs I.sets us) :
    Calls Tryz.prog 46 #[inV I vi vc vs] w fun e w' => e = .returned (.bool I.fine) ∧ Below w.heap.size w w' := by
  obtain ⟨A0, C0, rfl, hC0, hM0⟩ := hi.form
  obtain ⟨A, C, rfl, hC, hM⟩ := hc.form
  obtain ⟨A2, C2, rfl, hC2, hM2⟩ := hs.form
  unfold maxLen at hM hM2 hM0
  have nb := new_below w (.cells #[.int .i64 I.kind, .int .i64 I.cap, .slice A0 I.items.length C0, .slice A I.cost.length C, .int .i64 I.size, .slice A2 I.sets.length C2] 33)
  have HI := Lib.hid (hi.next nb)
  have HC := Lib.hid (hc.next nb)
  have HS := Lib.hid (hs.next nb)
  have HB := Lib.hid nb
  have HX := Lib.hid (ibox_new w (.int .i64 I.kind) (.int .i64 I.cap) (.slice A0 I.items.length C0) (.slice A I.cost.length C) (.int .i64 I.size) (.slice A2 I.sets.length C2) 33)
  clear hi hc hs nb
  have AM := fun x W => isAmount_any x W
  unfold inV
  rw [fine_eq]
  obtain ⟨T, hT⟩ : ∃ T, (amt I.cap && (itemsOk I.items && (costOk I.cost && setsOk I.sets))) = T := ⟨_, rfl⟩
  rw [hT]
  have HT := Lib.hid hT
  clear hT
  go_enter Tryz.func46, Tryz.ntmps46
  go_wp2_with fail
  with_reducible refine (AM _ _).mono ?_
  rintro e w1 ⟨rfl, hw1⟩
  rw [← hw1] at HI HC HS HB HX
  clear hw1
  obtain ⟨x0, x1, x2, x3, x4, x5⟩ := HX.out
  by_cases hcap : amt I.cap = false
  · have HCAP := Lib.hid hcap
    rw [hcap]
    go_wp2
    go_ret
    exact ⟨by rw [show T = false by rw [← HT.out]; simp [HCAP.out]]; rfl, HB.out⟩
  have hcap : amt I.cap = true := by simpa using hcap
  have HCAP := Lib.hid hcap
  rw [hcap]
  clear hcap
  go_wp2
  clear x0 x1 x2 x3 x4 x5
  go_loopw [18, 4] (fun i _ wr => ∃ (k : Nat), k ≤ I.items.length ∧ i = .int .i64 (k : Nat) ∧ Hid (Below w1.heap.size w1 wr) ∧ Hid (itemsOk (I.items.drop k) = itemsOk I.items)) (fun i _ _ => I.items.length - (intOf i).toNat)
  case atStart => exact ⟨0, by omega, rfl, Below.refl _ _, rfl⟩
  case round =>
    obtain ⟨k, hk, rfl, hB, hQ⟩ := hrel
    obtain ⟨x0, x1, x2, x3, x4, x5⟩ := HX.out.next hB.out
    by_cases hlt : k < I.items.length
    · obtain ⟨b, off, p, rfl, _, hb, hp, c0, c1⟩ := (HI.out.next hB.out).get hlt
      have hq := hQ.out
      rw [itemsOk_drop hp] at hq
      have hB2 := Lib.hid (hB.out.alloc hB.out.size (.cells #[.int .i64 p.1, .int .i64 p.2] 70))
      have c01 : (0 : Int) ≤ (k : Int) := by omega
      have c02 : (k : Int) < (I.items.length : Int) := by omega
      have hsx := cell_lt x0
      clear hQ hB hp
      go_wp2_with fail
      with_reducible refine (AM _ _).mono ?_
      rintro e w3 ⟨rfl, hw3⟩
      obtain rfl := hw3.symm
      by_cases h1 : amt p.1 = true
      · rw [h1] at hq ⊢
        go_wp2_with fail
        with_reducible refine (AM _ _).mono ?_
        rintro e w3 ⟨rfl, hw3⟩
        obtain rfl := hw3.symm
        by_cases h2 : amt p.2 = true
        · rw [h2] at hq ⊢
          have HR : Hid (itemsOk (I.items.drop (k + 1)) = itemsOk I.items) := by show _ = _; rw [← hq]; simp
          clear hq
          go_wp2
          go_roundw
          case rel => exact ⟨k + 1, by omega, by go_num, hB2, HR⟩
          case measure => simp [intOf]; omega
        · have h2 : amt p.2 = false := by simpa using h2
          rw [h2] at hq ⊢
          have HR : Hid (itemsOk I.items = false) := by show _ = _; rw [← hq]; simp
          clear hq
          go_wp2
          go_ret
          exact ⟨by rw [show T = false by rw [← HT.out]; simp [HCAP.out, HR.out]]; rfl, on HB.out hB2.out⟩
      · have h1 : amt p.1 = false := by simpa using h1
        rw [h1] at hq ⊢
        have HR : Hid (itemsOk I.items = false) := by show _ = _; rw [← hq]; simp
        clear hq
        go_wp2
        go_ret
        exact ⟨by rw [show T = false by rw [← HT.out]; simp [HCAP.out, HR.out]]; rfl, on HB.out hB2.out⟩
    · obtain rfl : k = I.items.length := by omega
      have hq := hQ.out
      rw [itemsOk_done] at hq
      have HR := Lib.hid hq
      clear hq hQ
      go_wp2
      obtain ⟨w2, hw2⟩ : ∃ q, q = wr := ⟨wr, rfl⟩
      subst hw2
      have HC2 := Lib.hid (HC.out.next hB.out)
      have HS2 := Lib.hid (HS.out.next hB.out)
      have HX2 := Lib.hid (HX.out.next hB.out)
      have HB2 := Lib.hid (on HB.out hB.out)
      clear x0 x1 x2 x3 x4 x5 hB HC HS HX HB HI
      go_loopw [36] (fun i wr => ∃ (k : Nat), k ≤ I.cost.length ∧ i = .int .i64 (k : Nat) ∧ wr = w2 ∧ Hid (costOk (I.cost.drop k) = costOk I.cost)) (fun i _ => I.cost.length - (intOf i).toNat)
      case atStart => exact ⟨0, by omega, rfl, rfl, rfl⟩
      case round =>
        obtain ⟨k, hk, rfl, rfl, hQ⟩ := hrel
        obtain ⟨x0, x1, x2, x3, x4, x5⟩ := HX2.out
        by_cases hlt : k < I.cost.length
        · obtain ⟨b, off, r, A', C', rfl, _, hb, hr, c0, _, hC', hM', hI⟩ := HC2.out.get hlt
          have hq := hQ.out
          rw [costOk_drop hr] at hq
          have HQ := Lib.hid hq
          have HII := Lib.hid hI
          have c01 : (0 : Int) ≤ (k : Int) := by omega
          have c02 : (k : Int) < (I.cost.length : Int) := by omega
          unfold maxLen at hM'
          clear hQ hq hr hI
          go_wp2
          clear x0 x1 x2 x3 x4 x5 c0
          obtain ⟨w3, hw3⟩ : ∃ q, q = wr := ⟨wr, rfl⟩
          subst hw3
          go_loopw [42] (fun i wr => ∃ (j : Nat), j ≤ r.length ∧ i = .int .i64 (j : Nat) ∧ wr = w3 ∧ Hid ((r.drop j).all mag = r.all mag)) (fun i _ => r.length - (intOf i).toNat)
          case atStart => exact ⟨0, by omega, rfl, rfl, rfl⟩
          case round =>
            obtain ⟨j, hj, rfl, rfl, hQ⟩ := hrel
            by_cases hlj : j < r.length
            · obtain ⟨b', off', x, rfl, _, hb', hx, c1⟩ := HII.out.get hlj
              have hq := hQ.out
              rw [all_drop hx] at hq
              unfold mag at hq
              have d01 : (0 : Int) ≤ (j : Int) := by omega
              have d02 : (j : Int) < (r.length : Int) := by omega
              by_cases h1 : -2147483648 ≤ x
              · by_cases h2 : x ≤ 2147483648
                · have HR3 : Hid ((r.drop (j + 1)).all mag = r.all mag) := by
                    show _ = _
                    unfold mag
                    rw [← hq]; simp [h1, h2]
                  have h1 : ¬ x < -2147483648 := by omega
                  have h2 : ¬ 2147483648 < x := by omega
                  clear hQ hq hx
                  go_wp2
                  go_roundw
                  case rel => exact ⟨j + 1, by omega, by go_num, trivial, HR3⟩
                  case measure => simp [intOf]; omega
                · have HR3 : Hid (r.all mag = false) := by
                    show _ = _
                    unfold mag
                    rw [← hq]; simp; omega
                  have HR4 : Hid (costOk I.cost = false) := by show _ = _; rw [← HQ.out, HR3.out]; rfl
                  have h1 : ¬ x < -2147483648 := by omega
                  clear hQ hq hx
                  go_wp2
                  go_ret
                  exact ⟨by rw [show T = false by rw [← HT.out]; simp [HCAP.out, HR4.out]]; rfl, HB2.out⟩
              · have HR3 : Hid (r.all mag = false) := by
                  show _ = _
                  unfold mag
                  rw [← hq]; simp; omega
                have HR4 : Hid (costOk I.cost = false) := by show _ = _; rw [← HQ.out, HR3.out]; rfl
                clear hQ hq hx
                go_wp2
                go_ret
                exact ⟨by rw [show T = false by rw [← HT.out]; simp [HCAP.out, HR4.out]]; rfl, HB2.out⟩
            · obtain rfl : j = r.length := by omega
              have hq := hQ.out
              rw [all_done] at hq
              have HR3 : Hid (costOk (I.cost.drop (k + 1)) = costOk I.cost) := by show _ = _; rw [← HQ.out, ← hq]; rfl
              clear hq hQ
              go_wp2
              go_roundw
              case rel => exact ⟨k + 1, by omega, by go_num, trivial, HR3⟩
              case measure => simp [intOf]; omega
        · obtain rfl : k = I.cost.length := by omega
          have hq := hQ.out
          rw [costOk_done] at hq
          have HR2 := Lib.hid hq
          clear hq hQ
          go_wp2
          obtain ⟨w3, hw3⟩ : ∃ q, q = wr := ⟨wr, rfl⟩
          subst hw3
          clear x0 x1 x2 x3 x4 x5
          go_loopw [57, 10] (fun i _ wr => ∃ (k : Nat), k ≤ I.sets.length ∧ i = .int .i64 (k : Nat) ∧ Hid (Below w3.heap.size w3 wr) ∧ Hid (setsOk (I.sets.drop k) = setsOk I.sets)) (fun i _ _ => I.sets.length - (intOf i).toNat)
          case atStart => exact ⟨0, by omega, rfl, Below.refl _ _, rfl⟩
          case round =>
            obtain ⟨k, hk, rfl, hB, hQ⟩ := hrel
            by_cases hlt : k < I.sets.length
            · obtain ⟨b, off, s, A', C', rfl, _, hb, hs, c0, c1, _, hC', hM', hI⟩ := (HS2.out.next hB.out).get hlt
              have hq := hQ.out
              rw [setsOk_drop hs] at hq
              have hB2 := Lib.hid (hB.out.alloc hB.out.size (.cells #[.int .i64 s.1, .slice A' s.2.length C'] 71))
              have c01 : (0 : Int) ≤ (k : Int) := by omega
              have c02 : (k : Int) < (I.sets.length : Int) := by omega
              clear hQ hI hs hB
              go_wp2_with fail
              with_reducible refine (AM _ _).mono ?_
              rintro e w4 ⟨rfl, hw4⟩
              obtain rfl := hw4.symm
              by_cases h1 : amt s.1 = true
              · rw [h1] at hq ⊢
                have HR3 : Hid (setsOk (I.sets.drop (k + 1)) = setsOk I.sets) := by show _ = _; rw [← hq]; simp
                clear hq
                go_wp2
                go_roundw
                case rel => exact ⟨k + 1, by omega, by go_num, hB2, HR3⟩
                case measure => simp [intOf]; omega
              · have h1 : amt s.1 = false := by simpa using h1
                rw [h1] at hq ⊢
                have HR3 : Hid (setsOk I.sets = false) := by show _ = _; rw [← hq]; simp
                clear hq
                go_wp2
                go_ret
                exact ⟨by rw [show T = false by rw [← HT.out]; simp [HCAP.out, HR3.out]]; rfl, on HB2.out hB2.out⟩
            · obtain rfl : k = I.sets.length := by omega
              have hq := hQ.out
              rw [setsOk_done] at hq
              have HR3 := Lib.hid hq
              clear hq hQ
              go_wp2
              go_ret
              exact ⟨by rw [show T = true by rw [← HT.out, HCAP.out, ← HR.out, ← HR2.out, ← HR3.out]; rfl]; rfl, on HB2.out hB.out⟩
end Go.Proofs.YtbadingdklenhaaGreatDoor
