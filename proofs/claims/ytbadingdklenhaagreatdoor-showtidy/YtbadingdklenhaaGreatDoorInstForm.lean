/-
  What package inst's isFormed and isHollow do (layer 9).
-/
import Derived.Test.YtbadingdklenhaaGreatDoorInstWalks
namespace Go.Proofs.YtbadingdklenhaaGreatDoor
set_option maxRecDepth 100000
open Go.RowKit

theorem all_drop {α : Type} {p : α → Bool} {l : List α} {k : Nat} {x : α} (h : l[k]? = some x) : (l.drop k).all p = (p x && (l.drop (k + 1)).all p) := by
  obtain ⟨hk, hx⟩ := List.getElem?_eq_some_iff.1 h
  rw [List.drop_eq_getElem_cons hk, hx]
  rfl
theorem all_done {α : Type} {p : α → Bool} {l : List α} : (l.drop l.length).all p = true := by rw [List.drop_eq_nil_of_le (Nat.le_refl _)]; rfl
theorem hol_drop {l : List (List Int)} {k : Nat} {r : List Int} (h : l[k]? = some r) : hol k (l.drop k) = (decide (r.getD k 0 = 0) && hol (k + 1) (l.drop (k + 1))) := by
  obtain ⟨hk, hx⟩ := List.getElem?_eq_some_iff.1 h
  rw [List.drop_eq_getElem_cons hk, hx]
  rfl

set_option maxHeartbeats 4000000 in
theorem isHollow_any (F G : Nat → Prop) (I : In) (vi vc vs : Value) (uc : List Value) (w : World) (hc : Rws F G w vc I.cost uc) (hsq : ∀ (i : Nat) (r : List Int), I.cost[i]? = some r → r.length = I.cost.length) :
    Calls Tryz.prog 47 #[inV I vi vc vs] w fun e w' => e = .returned (.bool (hol 0 I.cost)) ∧ Below w.heap.size w w' := by
  obtain ⟨A, C, rfl, hC, hM⟩ := hc.form
  unfold maxLen at hM
  have HC := Lib.hid (hc.next (new_below w (.cells #[.int .i64 I.kind, .int .i64 I.cap, vi, .slice A I.cost.length C, .int .i64 I.size, vs] 33)))
  have HSQ := Lib.hid hsq
  have HB := Lib.hid (new_below w (.cells #[.int .i64 I.kind, .int .i64 I.cap, vi, .slice A I.cost.length C, .int .i64 I.size, vs] 33))
  clear hc hsq
  unfold inV
  go_enter Tryz.func47, Tryz.ntmps47
  go_wp2
  obtain ⟨w1, hw1⟩ : ∃ q, q = w.alloc (.cells #[.int .i64 I.kind, .int .i64 I.cap, vi, .slice A I.cost.length C, .int .i64 I.size, vs] 33) := ⟨_, rfl⟩
  rw [← hw1] at HC HB ⊢
  clear hw1
  go_loopw [8] (fun i wr => ∃ (k : Nat), k ≤ I.cost.length ∧ i = .int .i64 (k : Nat) ∧ wr = w1 ∧ Hid (hol k (I.cost.drop k) = hol 0 I.cost)) (fun i _ => I.cost.length - (intOf i).toNat)
  case atStart => exact ⟨0, by omega, rfl, rfl, rfl⟩
  case round =>
    obtain ⟨k, hk, rfl, rfl, hQ⟩ := hrel
    by_cases hlt : k < I.cost.length
    · obtain ⟨b, off, r, A', C', rfl, _, hb, hr, c0, _, hC', hM', hI⟩ := HC.out.get hlt
      have hrl := HSQ.out k r hr
      obtain ⟨b', off', x, rfl, _, hb', hx, c1⟩ := hI.get (i := k) (by omega)
      have hq := hQ.out
      rw [hol_drop hr, show r.getD k 0 = x by rw [List.getD_eq_getElem?_getD, hx]; rfl] at hq
      rw [hrl] at c0
      have c01 : (0 : Int) ≤ (k : Int) := by omega
      have c02 : (k : Int) < (I.cost.length : Int) := by omega
      by_cases h1 : x = 0
      · have HR : Hid (hol (k + 1) (I.cost.drop (k + 1)) = hol 0 I.cost) := by show _ = _; rw [← hq]; simp [h1]
        clear hQ hq hx hI hr hrl
        go_wp2
        go_roundw
        case rel => exact ⟨k + 1, by omega, by go_num, trivial, HR⟩
        case measure => simp [intOf]; omega
      · have HR : Hid (hol 0 I.cost = false) := by show _ = _; rw [← hq]; simp [h1]
        clear hQ hq hx hI hr hrl
        go_wp2
        go_ret
        exact ⟨by rw [HR.out]; rfl, HB.out⟩
    · obtain rfl : k = I.cost.length := by omega
      have hq := hQ.out
      rw [List.drop_eq_nil_of_le (Nat.le_refl _)] at hq
      simp only [hol] at hq
      have HR := Lib.hid hq
      clear hq hQ
      go_wp2
      go_ret
      exact ⟨by rw [← HR.out]; rfl, HB.out⟩

set_option maxHeartbeats 4000000 in
theorem isFormed_any (F G : Nat → Prop) (I : In) (vi vc vs : Value) (uc us : List Value) (w : World) (hc : Rws F G w vc I.cost uc) (hs : Sts F G w vs I.sets us) (hsz : I.size ≤ 4096) :
    Calls Tryz.prog 45 #[inV I vi vc vs] w fun e w' => e = .returned (.bool I.formed) ∧ Below w.heap.size w w' := by
  obtain ⟨A, C, rfl, hC, hM⟩ := hc.form
  obtain ⟨A2, C2, rfl, hC2, hM2⟩ := hs.form
  unfold maxLen at hM hM2
  have HC := Lib.hid (hc.next (new_below w (.cells #[.int .i64 I.kind, .int .i64 I.cap, vi, .slice A I.cost.length C, .int .i64 I.size, .slice A2 I.sets.length C2] 33)))
  have HS := Lib.hid (hs.next (new_below w (.cells #[.int .i64 I.kind, .int .i64 I.cap, vi, .slice A I.cost.length C, .int .i64 I.size, .slice A2 I.sets.length C2] 33)))
  have HB := Lib.hid (new_below w (.cells #[.int .i64 I.kind, .int .i64 I.cap, vi, .slice A I.cost.length C, .int .i64 I.size, .slice A2 I.sets.length C2] 33))
  have HX := Lib.hid (ibox_new w (.int .i64 I.kind) (.int .i64 I.cap) vi (.slice A I.cost.length C) (.int .i64 I.size) (.slice A2 I.sets.length C2) 33)
  clear hc hs
  unfold inV In.formed
  go_enter Tryz.func45, Tryz.ntmps45
  go_wp2
  obtain ⟨w1, hw1⟩ : ∃ q, q = w.alloc (.cells #[.int .i64 I.kind, .int .i64 I.cap, vi, .slice A I.cost.length C, .int .i64 I.size, .slice A2 I.sets.length C2] 33) := ⟨_, rfl⟩
  rw [← hw1] at HC HS HB HX ⊢
  clear hw1
  go_loopw [10] (fun i wr => ∃ (k : Nat), k ≤ I.cost.length ∧ i = .int .i64 (k : Nat) ∧ wr = w1 ∧ Hid ((I.cost.drop k).all (fun r => decide (r.length = I.cost.length)) = I.cost.all (fun r => decide (r.length = I.cost.length)))) (fun i _ => I.cost.length - (intOf i).toNat)
  case atStart => exact ⟨0, by omega, rfl, rfl, rfl⟩
  case round =>
    obtain ⟨k, hk, rfl, rfl, hQ⟩ := hrel
    obtain ⟨x0, x1, x2, x3, x4, x5⟩ := HX.out
    by_cases hlt : k < I.cost.length
    · obtain ⟨b, off, r, A', C', rfl, _, hb, hr, c0, _, hC', hM', hI⟩ := HC.out.get hlt
      have hq := hQ.out
      rw [all_drop hr] at hq
      have c01 : (0 : Int) ≤ (k : Int) := by omega
      have c02 : (k : Int) < (I.cost.length : Int) := by omega
      by_cases h1 : r.length = I.cost.length
      · have HR : Hid ((I.cost.drop (k + 1)).all (fun r => decide (r.length = I.cost.length)) = I.cost.all (fun r => decide (r.length = I.cost.length))) := by show _ = _; rw [← hq]; simp [h1]
        rw [h1] at c0
        clear hQ hq hI hr h1
        go_wp2
        go_roundw
        case rel => exact ⟨k + 1, by omega, by go_num, trivial, HR⟩
        case measure => simp [intOf]; omega
      · have HR : Hid (I.cost.all (fun r => decide (r.length = I.cost.length)) = false) := by show _ = _; rw [← hq]; simp [h1]
        have h2 : ((r.length : Int) == (I.cost.length : Int)) = false := by simp; omega
        clear hQ hq hI hr
        go_wp2
        go_ret
        exact ⟨by rw [HR.out]; rfl, HB.out⟩
    · obtain rfl : k = I.cost.length := by omega
      have hq := hQ.out
      rw [all_done] at hq
      have HR := Lib.hid hq
      clear hq hQ
      go_wp2
      obtain ⟨w2, hw2⟩ : ∃ q, q = wr := ⟨wr, rfl⟩
      subst hw2
      clear x0 x1 x2 x3 x4 x5
      go_loopw [24, 6] (fun i _ wr => ∃ (k : Nat), k ≤ I.sets.length ∧ i = .int .i64 (k : Nat) ∧ Hid (Below w2.heap.size w2 wr) ∧ Hid ((I.sets.drop k).all (fun s => ris I.size 0 s.2) = I.sets.all (fun s => ris I.size 0 s.2))) (fun i _ _ => I.sets.length - (intOf i).toNat)
      case atStart => exact ⟨0, by omega, rfl, Below.refl _ _, rfl⟩
      case round =>
        obtain ⟨k, hk, rfl, hB, hQ⟩ := hrel
        obtain ⟨x0, x1, x2, x3, x4, x5⟩ := HX.out.next hB.out
        by_cases hlt : k < I.sets.length
        · obtain ⟨b, off, s, A', C', rfl, _, hb, hs, c0, c1, _, hC', hM', hI⟩ := (HS.out.next hB.out).get hlt
          have hq := hQ.out
          rw [all_drop hs] at hq
          have RI := rise_any G s.2 _ I.size (wr.alloc (.cells #[.int .i64 s.1, .slice A' s.2.length C'] 71)) (hI.next (new_below _ _)) hsz
          have hB2 := Lib.hid (hB.out.alloc hB.out.size (.cells #[.int .i64 s.1, .slice A' s.2.length C'] 71))
          have c01 : (0 : Int) ≤ (k : Int) := by omega
          have c02 : (k : Int) < (I.sets.length : Int) := by omega
          have hsx := cell_lt x0
          by_cases h1 : ris I.size 0 s.2 = true
          · have HR2 : Hid ((I.sets.drop (k + 1)).all (fun s => ris I.size 0 s.2) = I.sets.all (fun s => ris I.size 0 s.2)) := by show _ = _; rw [← hq]; simp [h1]
            rw [h1] at RI
            clear hQ hq hI hs h1 hB
            go_wp2_with fail
            with_reducible refine RI.mono ?_
            rintro e w3 ⟨rfl, hw3⟩
            obtain rfl := hw3.symm
            clear RI
            go_wp2
            go_roundw
            case rel => exact ⟨k + 1, by omega, by go_num, hB2, HR2⟩
            case measure => simp [intOf]; omega
          · have h1 : ris I.size 0 s.2 = false := by simpa using h1
            have HR2 : Hid (I.sets.all (fun s => ris I.size 0 s.2) = false) := by show _ = _; rw [← hq]; simp [h1]
            rw [h1] at RI
            clear hQ hq hI hs h1 hB
            go_wp2_with fail
            with_reducible refine RI.mono ?_
            rintro e w3 ⟨rfl, hw3⟩
            obtain rfl := hw3.symm
            clear RI
            go_wp2
            go_ret
            exact ⟨by rw [HR2.out]; simp, on HB.out hB2.out⟩
        · obtain rfl : k = I.sets.length := by omega
          have hq := hQ.out
          rw [all_done] at hq
          have HR2 := Lib.hid hq
          clear hq hQ
          go_wp2
          go_ret
          exact ⟨by rw [← HR.out, ← HR2.out]; rfl, on HB.out hB.out⟩
end Go.Proofs.YtbadingdklenhaaGreatDoor
