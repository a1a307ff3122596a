/-
  What the document's more and Point do (package secateurref08).
-/
import Derived.Test.YtbadingdklenhaaGreatDoorLexTok
namespace Go.Proofs.YtbadingdklenhaaGreatDoor
set_option maxRecDepth 100000
open Go.RowKit

def okR (o : Option UInt8) (lo hi : Nat) : Bool := match o with
  | some b => decide (lo ≤ b.toNat) && decide (b.toNat ≤ hi)
  | none => false
theorem more_any (s : ByteArray) (i lo hi : Nat) (w : World) :
    Calls Tryz.prog 75 #[.string s, .int .i64 (i : Nat), .int .u8 (lo : Nat), .int .u8 (hi : Nat)] w fun e w' => e = .returned (.bool (okR s.data.toList[i]? lo hi)) ∧ w' = w := by
  by_cases h : i < s.size
  · have e1 := get_list s i h
    have e2 : s.get! i = s[i]'h := get_at s i h
    rw [e1, e2]
    have e3 : okR (some (s[i]'h)) lo hi = (decide ((lo : Int) ≤ ((s[i]'h).toNat : Int)) && decide (((s[i]'h).toNat : Int) ≤ (hi : Int))) := by
      unfold okR
      simp only
      rw [show decide (lo ≤ (s[i]'h).toNat) = decide ((lo : Int) ≤ ((s[i]'h).toNat : Int)) from decide_eq_decide.2 (by omega), show decide ((s[i]'h).toNat ≤ hi) = decide (((s[i]'h).toNat : Int) ≤ (hi : Int)) from decide_eq_decide.2 (by omega)]
    rw [e3]
    clear e1 e2 e3
    obtain ⟨b, hb⟩ : ∃ b, s[i]'h = b := ⟨_, rfl⟩
    by_cases h1 : (lo : Int) ≤ ((s[i]'h).toNat : Int)
    · rw [hb] at h1 ⊢
      go_enter Tryz.func75, Tryz.ntmps75
      go_wp2
      go_ret
      exact ⟨by simp [h1], rfl⟩
    · rw [hb] at h1 ⊢
      go_enter Tryz.func75, Tryz.ntmps75
      go_wp2
      go_ret
      exact ⟨by simp; omega, rfl⟩
  · have e1 : s.data.toList[i]? = none := List.getElem?_eq_none (by rw [size_list]; omega)
    rw [e1]
    have e2 : okR none lo hi = false := rfl
    rw [e2]
    clear e1 e2
    go_enter Tryz.func75, Tryz.ntmps75
    go_wp2
    go_ret
    exact ⟨rfl, rfl⟩

theorem ret_int {k : IntKind} {a b : Int} (h : a = b) : Ending.returned (.int k a) = .returned (.int k b) := by rw [h]
theorem more_int (s : ByteArray) (i lo hi : Nat) (i' lo' hi' : Int) (e1 : i' = (i : Int)) (e2 : lo' = (lo : Int)) (e3 : hi' = (hi : Int)) (w : World) :
    Calls Tryz.prog 75 #[.string s, .int .i64 i', .int .u8 lo', .int .u8 hi'] w fun e w' => e = .returned (.bool (okR s.data.toList[i]? lo hi)) ∧ w' = w := by
  rw [e1, e2, e3]
  exact more_any s i lo hi w
theorem okAt_okR (a : UInt8) (r : List UInt8) (k : Nat) : okAt (a :: r) a.toNat k = okR (a :: r)[k]? (if k = 1 then pLow a.toNat else 128) (if k = 1 then pHigh a.toNat else 191) := by
  unfold okAt okR
  cases (a :: r)[k]? with
  | none => rfl
  | some b => by_cases hk : k = 1 <;> simp [hk]

set_option maxHeartbeats 4000000 in
theorem point_any (s : ByteArray) (pos : Nat) (hp : pos < s.size) (hs : s.size ≤ 281474976710656) (w : World) :
    Calls Tryz.prog 54 #[.string s, .int .i64 (pos : Nat)] w fun e w' => e = .returned (.int .i64 (pt (s.data.toList.drop pos) : Nat)) ∧ w' = w := by
  have hl := size_list s
  have e1 := get_list s pos hp
  have e2 : s.get! pos = s[pos]'hp := get_at s pos hp
  have e3 : s.data.toList[pos]'(by omega) = s[pos]'hp := by
    rw [List.getElem?_eq_getElem (by omega), e2] at e1
    exact Option.some.inj e1
  have hd : s.data.toList.drop pos = s[pos]'hp :: s.data.toList.drop (pos + 1) := by rw [List.drop_eq_getElem_cons (by omega), e3]
  have hat : ∀ k, 1 ≤ k → okAt (s.data.toList.drop pos) (s[pos]'hp).toNat k = okR s.data.toList[pos + k]? (if k = 1 then pLow (s[pos]'hp).toNat else 128) (if k = 1 then pHigh (s[pos]'hp).toNat else 191) := by
    intro k _
    rw [hd, okAt_okR, ← hd, List.getElem?_drop]
  obtain ⟨a, ha⟩ : ∃ a, s[pos]'hp = a := ⟨_, rfl⟩
  rw [ha] at hd hat
  have hb := a.toNat_lt
  by_cases h1 : a.toNat < 128
  · rw [hd, pt_ascii h1]
    clear hd hat e1 e2 e3
    have h1' : (a.toNat : Int) < 128 := by omega
    go_enter Tryz.func54, Tryz.ntmps54
    go_wp2
    go_ret
    exact ⟨rfl, rfl⟩
  · have h1' : ¬ (a.toNat : Int) < 128 := by omega
    have hno : ∀ k, 1 ≤ k → k < pLead a.toNat → okAt (s.data.toList.drop pos) a.toNat k = false → pt (s.data.toList.drop pos) = 0 := by
      intro k k1 k2 k3
      rw [hd] at k3 ⊢
      exact pt_not k1 k2 k3
    have hyes : (∀ k, 1 ≤ k → k < pLead a.toNat → okAt (s.data.toList.drop pos) a.toNat k = true) → pt (s.data.toList.drop pos) = pLead a.toNat := by
      intro k3
      rw [hd] at k3 ⊢
      exact pt_of k3
    have hN : ∃ N lo hi : Nat, pLead a.toNat = N ∧ pLow a.toNat = lo ∧ pHigh a.toNat = hi := ⟨_, _, _, rfl, rfl, rfl⟩
    obtain ⟨N, lo, hi, hN1, hlo, hhi⟩ := hN
    rw [hN1] at hno hyes
    rw [hlo, hhi] at hat
    have HNO := Lib.hid hno
    have HYES := Lib.hid hyes
    have HAT := Lib.hid hat
    have cases4 : (N = 0 ∧ lo = 128 ∧ hi = 191 ∧ (a.toNat < 194 ∨ 244 < a.toNat)) ∨ (N = 2 ∧ lo = 128 ∧ hi = 191 ∧ 194 ≤ a.toNat ∧ a.toNat ≤ 223) ∨ (N = 3 ∧ 224 ≤ a.toNat ∧ a.toNat ≤ 239 ∧ ((a.toNat = 224 ∧ lo = 160 ∧ hi = 191) ∨ (a.toNat = 237 ∧ lo = 128 ∧ hi = 159) ∨ (a.toNat ≠ 224 ∧ a.toNat ≠ 237 ∧ lo = 128 ∧ hi = 191))) ∨
        (N = 4 ∧ 240 ≤ a.toNat ∧ a.toNat ≤ 244 ∧ ((a.toNat = 240 ∧ lo = 144 ∧ hi = 191) ∨ (a.toNat = 244 ∧ lo = 128 ∧ hi = 143) ∨ (a.toNat ≠ 240 ∧ a.toNat ≠ 244 ∧ lo = 128 ∧ hi = 191))) := by
      unfold pLead at hN1
      unfold pLow at hlo
      unfold pHigh at hhi
      rw [if_neg h1] at hN1
      repeat' split at hN1
      all_goals repeat' split at hlo
      all_goals repeat' split at hhi
      all_goals omega
    clear hno hyes hat hd hN1 hlo hhi e1 e2 e3
    rcases cases4 with ⟨rfl, rfl, rfl, hr | hr⟩ | ⟨rfl, rfl, rfl, hr1, hr2⟩ | ⟨rfl, hr1, hr2, ⟨hr3, rfl, rfl⟩ | ⟨hr3, rfl, rfl⟩ | ⟨hr3, hr4, rfl, rfl⟩⟩ | ⟨rfl, hr1, hr2, ⟨hr3, rfl, rfl⟩ | ⟨hr3, rfl, rfl⟩ | ⟨hr3, hr4, rfl, rfl⟩⟩
    · go_enter Tryz.func54, Tryz.ntmps54
      go_wp2
      go_loopw [9] (fun i wr => ∃ k : Nat, 1 ≤ k ∧ k ≤ 1 ∧ i = .int .i64 (k : Nat) ∧ Hid (∀ j, 1 ≤ j → j < k → okAt (s.data.toList.drop pos) a.toNat j = true) ∧ wr = w) (fun i _ => 5 - (intOf i).toNat)
      case atStart => exact ⟨1, by omega, by omega, rfl, fun j _ _ => by omega, rfl⟩
      case round =>
        obtain ⟨k, hk1, hk2, rfl, hall, rfl⟩ := hrel
        have HR := Lib.hid (HYES.out (by omega))
        clear hall
        obtain rfl : k = 1 := by omega
        go_wp2
        go_ret
        exact ⟨ret_int (by rw [HR.out]; rfl), rfl⟩
    · go_enter Tryz.func54, Tryz.ntmps54
      go_wp2
      go_loopw [9] (fun i wr => ∃ k : Nat, 1 ≤ k ∧ k ≤ 1 ∧ i = .int .i64 (k : Nat) ∧ Hid (∀ j, 1 ≤ j → j < k → okAt (s.data.toList.drop pos) a.toNat j = true) ∧ wr = w) (fun i _ => 5 - (intOf i).toNat)
      case atStart => exact ⟨1, by omega, by omega, rfl, fun j _ _ => by omega, rfl⟩
      case round =>
        obtain ⟨k, hk1, hk2, rfl, hall, rfl⟩ := hrel
        have HR := Lib.hid (HYES.out (by omega))
        clear hall
        obtain rfl : k = 1 := by omega
        go_wp2
        go_ret
        exact ⟨ret_int (by rw [HR.out]; rfl), rfl⟩
    · go_enter Tryz.func54, Tryz.ntmps54
      go_wp2
      go_loopw [9] (fun i wr => ∃ k : Nat, 1 ≤ k ∧ k ≤ 2 ∧ i = .int .i64 (k : Nat) ∧ Hid (∀ j, 1 ≤ j → j < k → okAt (s.data.toList.drop pos) a.toNat j = true) ∧ wr = w) (fun i _ => 5 - (intOf i).toNat)
      case atStart => exact ⟨1, by omega, by omega, rfl, fun j _ _ => by omega, rfl⟩
      case round =>
        obtain ⟨k, hk1, hk2, rfl, hall, rfl⟩ := hrel
        by_cases hkN : k < 2
        · have M1 := more_int s (pos + k) 128 191 ((pos : Int) + (k : Int)) 128 191 (by omega) rfl rfl
          have M2 := more_int s (pos + k) 128 191 ((pos : Int) + (k : Int)) 128 191 (by omega) rfl rfl
          have hk := HAT.out k hk1
          by_cases hq1 : k = 1
          · subst hq1
            rw [show ((pos : Int) + ((1 : Nat) : Int)) = (pos : Int) + 1 from rfl] at M1 M2
            rw [if_pos rfl, if_pos rfl] at hk
            rw [← hk] at M2
            generalize okR s.data.toList[pos + 1]? 128 191 = b1 at M1
            by_cases hq : okAt (s.data.toList.drop pos) a.toNat 1 = true
            · have hall2 : Hid (∀ j, 1 ≤ j → j < 1 + 1 → okAt (s.data.toList.drop pos) a.toNat j = true) := by
                intro j j1 j2
                obtain rfl : j = 1 := by omega
                exact hq
              rw [hq] at M2
              clear hq hall hk
              go_wp2_with fail
              with_reducible refine (M1 _).mono ?_
              rintro e w1 ⟨rfl, rfl⟩
              go_wp2_with fail
              with_reducible refine (M2 _).mono ?_
              rintro e w1 ⟨rfl, rfl⟩
              go_wp2
              go_roundw
              case rel => exact ⟨1 + 1, by omega, by omega, by go_num, hall2, trivial⟩
              case measure => simp [intOf]
            · have hq' : okAt (s.data.toList.drop pos) a.toNat 1 = false := by simpa using hq
              have HR := Lib.hid (HNO.out 1 (by omega) (by omega) hq')
              rw [hq'] at M2
              clear hq hq' hall hk
              go_wp2_with fail
              with_reducible refine (M1 _).mono ?_
              rintro e w1 ⟨rfl, rfl⟩
              go_wp2_with fail
              with_reducible refine (M2 _).mono ?_
              rintro e w1 ⟨rfl, rfl⟩
              go_wp2
              go_ret
              exact ⟨ret_int (by rw [HR.out]; rfl), rfl⟩
          · exfalso; omega
        · obtain rfl : k = 2 := by omega
          have HR := Lib.hid (HYES.out hall.out)
          clear hall
          go_wp2
          go_ret
          exact ⟨ret_int (by rw [HR.out]; rfl), rfl⟩
    · go_enter Tryz.func54, Tryz.ntmps54
      go_wp2
      go_loopw [9] (fun i wr => ∃ k : Nat, 1 ≤ k ∧ k ≤ 3 ∧ i = .int .i64 (k : Nat) ∧ Hid (∀ j, 1 ≤ j → j < k → okAt (s.data.toList.drop pos) a.toNat j = true) ∧ wr = w) (fun i _ => 5 - (intOf i).toNat)
      case atStart => exact ⟨1, by omega, by omega, rfl, fun j _ _ => by omega, rfl⟩
      case round =>
        obtain ⟨k, hk1, hk2, rfl, hall, rfl⟩ := hrel
        by_cases hkN : k < 3
        · have M1 := more_int s (pos + k) 128 191 ((pos : Int) + (k : Int)) 128 191 (by omega) rfl rfl
          have M2 := more_int s (pos + k) 160 191 ((pos : Int) + (k : Int)) 160 191 (by omega) rfl rfl
          have hk := HAT.out k hk1
          by_cases hq1 : k = 1
          · subst hq1
            rw [show ((pos : Int) + ((1 : Nat) : Int)) = (pos : Int) + 1 from rfl] at M1 M2
            rw [if_pos rfl, if_pos rfl] at hk
            rw [← hk] at M2
            generalize okR s.data.toList[pos + 1]? 128 191 = b1 at M1
            by_cases hq : okAt (s.data.toList.drop pos) a.toNat 1 = true
            · have hall2 : Hid (∀ j, 1 ≤ j → j < 1 + 1 → okAt (s.data.toList.drop pos) a.toNat j = true) := by
                intro j j1 j2
                obtain rfl : j = 1 := by omega
                exact hq
              rw [hq] at M2
              clear hq hall hk
              go_wp2_with fail
              with_reducible refine (M1 _).mono ?_
              rintro e w1 ⟨rfl, rfl⟩
              go_wp2_with fail
              with_reducible refine (M2 _).mono ?_
              rintro e w1 ⟨rfl, rfl⟩
              go_wp2
              go_roundw
              case rel => exact ⟨1 + 1, by omega, by omega, by go_num, hall2, trivial⟩
              case measure => simp [intOf]
            · have hq' : okAt (s.data.toList.drop pos) a.toNat 1 = false := by simpa using hq
              have HR := Lib.hid (HNO.out 1 (by omega) (by omega) hq')
              rw [hq'] at M2
              clear hq hq' hall hk
              go_wp2_with fail
              with_reducible refine (M1 _).mono ?_
              rintro e w1 ⟨rfl, rfl⟩
              go_wp2_with fail
              with_reducible refine (M2 _).mono ?_
              rintro e w1 ⟨rfl, rfl⟩
              go_wp2
              go_ret
              exact ⟨ret_int (by rw [HR.out]; rfl), rfl⟩
          · rw [if_neg hq1, if_neg hq1] at hk
            rw [← hk] at M1
            have hq2 : ¬ ((k : Int) = 1) := by omega
            by_cases hq : okAt (s.data.toList.drop pos) a.toNat k = true
            · have hall2 : Hid (∀ j, 1 ≤ j → j < k + 1 → okAt (s.data.toList.drop pos) a.toNat j = true) := by
                intro j j1 j2
                by_cases hj : j = k
                · rw [hj]; exact hq
                · exact hall.out j j1 (by omega)
              rw [hq] at M1
              clear hq hall hk M2
              go_wp2_with fail
              with_reducible refine (M1 _).mono ?_
              rintro e w1 ⟨rfl, rfl⟩
              go_wp2
              go_roundw
              case rel => exact ⟨k + 1, by omega, by omega, by go_num, hall2, trivial⟩
              case measure => simp [intOf]; omega
            · have hq' : okAt (s.data.toList.drop pos) a.toNat k = false := by simpa using hq
              have HR := Lib.hid (HNO.out k (by omega) (by omega) hq')
              rw [hq'] at M1
              clear hq hq' hall hk M2
              go_wp2_with fail
              with_reducible refine (M1 _).mono ?_
              rintro e w1 ⟨rfl, rfl⟩
              go_wp2
              go_ret
              exact ⟨ret_int (by rw [HR.out]; rfl), rfl⟩
        · obtain rfl : k = 3 := by omega
          have HR := Lib.hid (HYES.out hall.out)
          clear hall
          go_wp2
          go_ret
          exact ⟨ret_int (by rw [HR.out]; rfl), rfl⟩
    · go_enter Tryz.func54, Tryz.ntmps54
      go_wp2
      go_loopw [9] (fun i wr => ∃ k : Nat, 1 ≤ k ∧ k ≤ 3 ∧ i = .int .i64 (k : Nat) ∧ Hid (∀ j, 1 ≤ j → j < k → okAt (s.data.toList.drop pos) a.toNat j = true) ∧ wr = w) (fun i _ => 5 - (intOf i).toNat)
      case atStart => exact ⟨1, by omega, by omega, rfl, fun j _ _ => by omega, rfl⟩
      case round =>
        obtain ⟨k, hk1, hk2, rfl, hall, rfl⟩ := hrel
        by_cases hkN : k < 3
        · have M1 := more_int s (pos + k) 128 191 ((pos : Int) + (k : Int)) 128 191 (by omega) rfl rfl
          have M2 := more_int s (pos + k) 128 159 ((pos : Int) + (k : Int)) 128 159 (by omega) rfl rfl
          have hk := HAT.out k hk1
          by_cases hq1 : k = 1
          · subst hq1
            rw [show ((pos : Int) + ((1 : Nat) : Int)) = (pos : Int) + 1 from rfl] at M1 M2
            rw [if_pos rfl, if_pos rfl] at hk
            rw [← hk] at M2
            generalize okR s.data.toList[pos + 1]? 128 191 = b1 at M1
            by_cases hq : okAt (s.data.toList.drop pos) a.toNat 1 = true
            · have hall2 : Hid (∀ j, 1 ≤ j → j < 1 + 1 → okAt (s.data.toList.drop pos) a.toNat j = true) := by
                intro j j1 j2
                obtain rfl : j = 1 := by omega
                exact hq
              rw [hq] at M2
              clear hq hall hk
              go_wp2_with fail
              with_reducible refine (M1 _).mono ?_
              rintro e w1 ⟨rfl, rfl⟩
              go_wp2_with fail
              with_reducible refine (M2 _).mono ?_
              rintro e w1 ⟨rfl, rfl⟩
              go_wp2
              go_roundw
              case rel => exact ⟨1 + 1, by omega, by omega, by go_num, hall2, trivial⟩
              case measure => simp [intOf]
            · have hq' : okAt (s.data.toList.drop pos) a.toNat 1 = false := by simpa using hq
              have HR := Lib.hid (HNO.out 1 (by omega) (by omega) hq')
              rw [hq'] at M2
              clear hq hq' hall hk
              go_wp2_with fail
              with_reducible refine (M1 _).mono ?_
              rintro e w1 ⟨rfl, rfl⟩
              go_wp2_with fail
              with_reducible refine (M2 _).mono ?_
              rintro e w1 ⟨rfl, rfl⟩
              go_wp2
              go_ret
              exact ⟨ret_int (by rw [HR.out]; rfl), rfl⟩
          · rw [if_neg hq1, if_neg hq1] at hk
            rw [← hk] at M1
            have hq2 : ¬ ((k : Int) = 1) := by omega
            by_cases hq : okAt (s.data.toList.drop pos) a.toNat k = true
            · have hall2 : Hid (∀ j, 1 ≤ j → j < k + 1 → okAt (s.data.toList.drop pos) a.toNat j = true) := by
                intro j j1 j2
                by_cases hj : j = k
                · rw [hj]; exact hq
                · exact hall.out j j1 (by omega)
              rw [hq] at M1
              clear hq hall hk M2
              go_wp2_with fail
              with_reducible refine (M1 _).mono ?_
              rintro e w1 ⟨rfl, rfl⟩
              go_wp2
              go_roundw
              case rel => exact ⟨k + 1, by omega, by omega, by go_num, hall2, trivial⟩
              case measure => simp [intOf]; omega
            · have hq' : okAt (s.data.toList.drop pos) a.toNat k = false := by simpa using hq
              have HR := Lib.hid (HNO.out k (by omega) (by omega) hq')
              rw [hq'] at M1
              clear hq hq' hall hk M2
              go_wp2_with fail
              with_reducible refine (M1 _).mono ?_
              rintro e w1 ⟨rfl, rfl⟩
              go_wp2
              go_ret
              exact ⟨ret_int (by rw [HR.out]; rfl), rfl⟩
        · obtain rfl : k = 3 := by omega
          have HR := Lib.hid (HYES.out hall.out)
          clear hall
          go_wp2
          go_ret
          exact ⟨ret_int (by rw [HR.out]; rfl), rfl⟩
    · go_enter Tryz.func54, Tryz.ntmps54
      go_wp2
      go_loopw [9] (fun i wr => ∃ k : Nat, 1 ≤ k ∧ k ≤ 3 ∧ i = .int .i64 (k : Nat) ∧ Hid (∀ j, 1 ≤ j → j < k → okAt (s.data.toList.drop pos) a.toNat j = true) ∧ wr = w) (fun i _ => 5 - (intOf i).toNat)
      case atStart => exact ⟨1, by omega, by omega, rfl, fun j _ _ => by omega, rfl⟩
      case round =>
        obtain ⟨k, hk1, hk2, rfl, hall, rfl⟩ := hrel
        by_cases hkN : k < 3
        · have M1 := more_int s (pos + k) 128 191 ((pos : Int) + (k : Int)) 128 191 (by omega) rfl rfl
          have M2 := more_int s (pos + k) 128 191 ((pos : Int) + (k : Int)) 128 191 (by omega) rfl rfl
          have hk := HAT.out k hk1
          by_cases hq1 : k = 1
          · subst hq1
            rw [show ((pos : Int) + ((1 : Nat) : Int)) = (pos : Int) + 1 from rfl] at M1 M2
            rw [if_pos rfl, if_pos rfl] at hk
            rw [← hk] at M2
            generalize okR s.data.toList[pos + 1]? 128 191 = b1 at M1
            by_cases hq : okAt (s.data.toList.drop pos) a.toNat 1 = true
            · have hall2 : Hid (∀ j, 1 ≤ j → j < 1 + 1 → okAt (s.data.toList.drop pos) a.toNat j = true) := by
                intro j j1 j2
                obtain rfl : j = 1 := by omega
                exact hq
              rw [hq] at M2
              clear hq hall hk
              go_wp2_with fail
              with_reducible refine (M1 _).mono ?_
              rintro e w1 ⟨rfl, rfl⟩
              go_wp2_with fail
              with_reducible refine (M2 _).mono ?_
              rintro e w1 ⟨rfl, rfl⟩
              go_wp2
              go_roundw
              case rel => exact ⟨1 + 1, by omega, by omega, by go_num, hall2, trivial⟩
              case measure => simp [intOf]
            · have hq' : okAt (s.data.toList.drop pos) a.toNat 1 = false := by simpa using hq
              have HR := Lib.hid (HNO.out 1 (by omega) (by omega) hq')
              rw [hq'] at M2
              clear hq hq' hall hk
              go_wp2_with fail
              with_reducible refine (M1 _).mono ?_
              rintro e w1 ⟨rfl, rfl⟩
              go_wp2_with fail
              with_reducible refine (M2 _).mono ?_
              rintro e w1 ⟨rfl, rfl⟩
              go_wp2
              go_ret
              exact ⟨ret_int (by rw [HR.out]; rfl), rfl⟩
          · rw [if_neg hq1, if_neg hq1] at hk
            rw [← hk] at M1
            have hq2 : ¬ ((k : Int) = 1) := by omega
            by_cases hq : okAt (s.data.toList.drop pos) a.toNat k = true
            · have hall2 : Hid (∀ j, 1 ≤ j → j < k + 1 → okAt (s.data.toList.drop pos) a.toNat j = true) := by
                intro j j1 j2
                by_cases hj : j = k
                · rw [hj]; exact hq
                · exact hall.out j j1 (by omega)
              rw [hq] at M1
              clear hq hall hk M2
              go_wp2_with fail
              with_reducible refine (M1 _).mono ?_
              rintro e w1 ⟨rfl, rfl⟩
              go_wp2
              go_roundw
              case rel => exact ⟨k + 1, by omega, by omega, by go_num, hall2, trivial⟩
              case measure => simp [intOf]; omega
            · have hq' : okAt (s.data.toList.drop pos) a.toNat k = false := by simpa using hq
              have HR := Lib.hid (HNO.out k (by omega) (by omega) hq')
              rw [hq'] at M1
              clear hq hq' hall hk M2
              go_wp2_with fail
              with_reducible refine (M1 _).mono ?_
              rintro e w1 ⟨rfl, rfl⟩
              go_wp2
              go_ret
              exact ⟨ret_int (by rw [HR.out]; rfl), rfl⟩
        · obtain rfl : k = 3 := by omega
          have HR := Lib.hid (HYES.out hall.out)
          clear hall
          go_wp2
          go_ret
          exact ⟨ret_int (by rw [HR.out]; rfl), rfl⟩
    · go_enter Tryz.func54, Tryz.ntmps54
      go_wp2
      go_loopw [9] (fun i wr => ∃ k : Nat, 1 ≤ k ∧ k ≤ 4 ∧ i = .int .i64 (k : Nat) ∧ Hid (∀ j, 1 ≤ j → j < k → okAt (s.data.toList.drop pos) a.toNat j = true) ∧ wr = w) (fun i _ => 5 - (intOf i).toNat)
      case atStart => exact ⟨1, by omega, by omega, rfl, fun j _ _ => by omega, rfl⟩
      case round =>
        obtain ⟨k, hk1, hk2, rfl, hall, rfl⟩ := hrel
        by_cases hkN : k < 4
        · have M1 := more_int s (pos + k) 128 191 ((pos : Int) + (k : Int)) 128 191 (by omega) rfl rfl
          have M2 := more_int s (pos + k) 144 191 ((pos : Int) + (k : Int)) 144 191 (by omega) rfl rfl
          have hk := HAT.out k hk1
          by_cases hq1 : k = 1
          · subst hq1
            rw [show ((pos : Int) + ((1 : Nat) : Int)) = (pos : Int) + 1 from rfl] at M1 M2
            rw [if_pos rfl, if_pos rfl] at hk
            rw [← hk] at M2
            generalize okR s.data.toList[pos + 1]? 128 191 = b1 at M1
            by_cases hq : okAt (s.data.toList.drop pos) a.toNat 1 = true
            · have hall2 : Hid (∀ j, 1 ≤ j → j < 1 + 1 → okAt (s.data.toList.drop pos) a.toNat j = true) := by
                intro j j1 j2
                obtain rfl : j = 1 := by omega
                exact hq
              rw [hq] at M2
              clear hq hall hk
              go_wp2_with fail
              with_reducible refine (M1 _).mono ?_
              rintro e w1 ⟨rfl, rfl⟩
              go_wp2_with fail
              with_reducible refine (M2 _).mono ?_
              rintro e w1 ⟨rfl, rfl⟩
              go_wp2
              go_roundw
              case rel => exact ⟨1 + 1, by omega, by omega, by go_num, hall2, trivial⟩
              case measure => simp [intOf]
            · have hq' : okAt (s.data.toList.drop pos) a.toNat 1 = false := by simpa using hq
              have HR := Lib.hid (HNO.out 1 (by omega) (by omega) hq')
              rw [hq'] at M2
              clear hq hq' hall hk
              go_wp2_with fail
              with_reducible refine (M1 _).mono ?_
              rintro e w1 ⟨rfl, rfl⟩
              go_wp2_with fail
              with_reducible refine (M2 _).mono ?_
              rintro e w1 ⟨rfl, rfl⟩
              go_wp2
              go_ret
              exact ⟨ret_int (by rw [HR.out]; rfl), rfl⟩
          · rw [if_neg hq1, if_neg hq1] at hk
            rw [← hk] at M1
            have hq2 : ¬ ((k : Int) = 1) := by omega
            by_cases hq : okAt (s.data.toList.drop pos) a.toNat k = true
            · have hall2 : Hid (∀ j, 1 ≤ j → j < k + 1 → okAt (s.data.toList.drop pos) a.toNat j = true) := by
                intro j j1 j2
                by_cases hj : j = k
                · rw [hj]; exact hq
                · exact hall.out j j1 (by omega)
              rw [hq] at M1
              clear hq hall hk M2
              go_wp2_with fail
              with_reducible refine (M1 _).mono ?_
              rintro e w1 ⟨rfl, rfl⟩
              go_wp2
              go_roundw
              case rel => exact ⟨k + 1, by omega, by omega, by go_num, hall2, trivial⟩
              case measure => simp [intOf]; omega
            · have hq' : okAt (s.data.toList.drop pos) a.toNat k = false := by simpa using hq
              have HR := Lib.hid (HNO.out k (by omega) (by omega) hq')
              rw [hq'] at M1
              clear hq hq' hall hk M2
              go_wp2_with fail
              with_reducible refine (M1 _).mono ?_
              rintro e w1 ⟨rfl, rfl⟩
              go_wp2
              go_ret
              exact ⟨ret_int (by rw [HR.out]; rfl), rfl⟩
        · obtain rfl : k = 4 := by omega
          have HR := Lib.hid (HYES.out hall.out)
          clear hall
          go_wp2
          go_ret
          exact ⟨ret_int (by rw [HR.out]; rfl), rfl⟩
    · go_enter Tryz.func54, Tryz.ntmps54
      go_wp2
      go_loopw [9] (fun i wr => ∃ k : Nat, 1 ≤ k ∧ k ≤ 4 ∧ i = .int .i64 (k : Nat) ∧ Hid (∀ j, 1 ≤ j → j < k → okAt (s.data.toList.drop pos) a.toNat j = true) ∧ wr = w) (fun i _ => 5 - (intOf i).toNat)
      case atStart => exact ⟨1, by omega, by omega, rfl, fun j _ _ => by omega, rfl⟩
      case round =>
        obtain ⟨k, hk1, hk2, rfl, hall, rfl⟩ := hrel
        by_cases hkN : k < 4
        · have M1 := more_int s (pos + k) 128 191 ((pos : Int) + (k : Int)) 128 191 (by omega) rfl rfl
          have M2 := more_int s (pos + k) 128 143 ((pos : Int) + (k : Int)) 128 143 (by omega) rfl rfl
          have hk := HAT.out k hk1
          by_cases hq1 : k = 1
          · subst hq1
            rw [show ((pos : Int) + ((1 : Nat) : Int)) = (pos : Int) + 1 from rfl] at M1 M2
            rw [if_pos rfl, if_pos rfl] at hk
            rw [← hk] at M2
            generalize okR s.data.toList[pos + 1]? 128 191 = b1 at M1
            by_cases hq : okAt (s.data.toList.drop pos) a.toNat 1 = true
            · have hall2 : Hid (∀ j, 1 ≤ j → j < 1 + 1 → okAt (s.data.toList.drop pos) a.toNat j = true) := by
                intro j j1 j2
                obtain rfl : j = 1 := by omega
                exact hq
              rw [hq] at M2
              clear hq hall hk
              go_wp2_with fail
              with_reducible refine (M1 _).mono ?_
              rintro e w1 ⟨rfl, rfl⟩
              go_wp2_with fail
              with_reducible refine (M2 _).mono ?_
              rintro e w1 ⟨rfl, rfl⟩
              go_wp2
              go_roundw
              case rel => exact ⟨1 + 1, by omega, by omega, by go_num, hall2, trivial⟩
              case measure => simp [intOf]
            · have hq' : okAt (s.data.toList.drop pos) a.toNat 1 = false := by simpa using hq
              have HR := Lib.hid (HNO.out 1 (by omega) (by omega) hq')
              rw [hq'] at M2
              clear hq hq' hall hk
              go_wp2_with fail
              with_reducible refine (M1 _).mono ?_
              rintro e w1 ⟨rfl, rfl⟩
              go_wp2_with fail
              with_reducible refine (M2 _).mono ?_
              rintro e w1 ⟨rfl, rfl⟩
              go_wp2
              go_ret
              exact ⟨ret_int (by rw [HR.out]; rfl), rfl⟩
          · rw [if_neg hq1, if_neg hq1] at hk
            rw [← hk] at M1
            have hq2 : ¬ ((k : Int) = 1) := by omega
            by_cases hq : okAt (s.data.toList.drop pos) a.toNat k = true
            · have hall2 : Hid (∀ j, 1 ≤ j → j < k + 1 → okAt (s.data.toList.drop pos) a.toNat j = true) := by
                intro j j1 j2
                by_cases hj : j = k
                · rw [hj]; exact hq
                · exact hall.out j j1 (by omega)
              rw [hq] at M1
              clear hq hall hk M2
              go_wp2_with fail
              with_reducible refine (M1 _).mono ?_
              rintro e w1 ⟨rfl, rfl⟩
              go_wp2
              go_roundw
              case rel => exact ⟨k + 1, by omega, by omega, by go_num, hall2, trivial⟩
              case measure => simp [intOf]; omega
            · have hq' : okAt (s.data.toList.drop pos) a.toNat k = false := by simpa using hq
              have HR := Lib.hid (HNO.out k (by omega) (by omega) hq')
              rw [hq'] at M1
              clear hq hq' hall hk M2
              go_wp2_with fail
              with_reducible refine (M1 _).mono ?_
              rintro e w1 ⟨rfl, rfl⟩
              go_wp2
              go_ret
              exact ⟨ret_int (by rw [HR.out]; rfl), rfl⟩
        · obtain rfl : k = 4 := by omega
          have HR := Lib.hid (HYES.out hall.out)
          clear hall
          go_wp2
          go_ret
          exact ⟨ret_int (by rw [HR.out]; rfl), rfl⟩
    · go_enter Tryz.func54, Tryz.ntmps54
      go_wp2
      go_loopw [9] (fun i wr => ∃ k : Nat, 1 ≤ k ∧ k ≤ 4 ∧ i = .int .i64 (k : Nat) ∧ Hid (∀ j, 1 ≤ j → j < k → okAt (s.data.toList.drop pos) a.toNat j = true) ∧ wr = w) (fun i _ => 5 - (intOf i).toNat)
      case atStart => exact ⟨1, by omega, by omega, rfl, fun j _ _ => by omega, rfl⟩
      case round =>
        obtain ⟨k, hk1, hk2, rfl, hall, rfl⟩ := hrel
        by_cases hkN : k < 4
        · have M1 := more_int s (pos + k) 128 191 ((pos : Int) + (k : Int)) 128 191 (by omega) rfl rfl
          have M2 := more_int s (pos + k) 128 191 ((pos : Int) + (k : Int)) 128 191 (by omega) rfl rfl
          have hk := HAT.out k hk1
          by_cases hq1 : k = 1
          · subst hq1
            rw [show ((pos : Int) + ((1 : Nat) : Int)) = (pos : Int) + 1 from rfl] at M1 M2
            rw [if_pos rfl, if_pos rfl] at hk
            rw [← hk] at M2
            generalize okR s.data.toList[pos + 1]? 128 191 = b1 at M1
            by_cases hq : okAt (s.data.toList.drop pos) a.toNat 1 = true
            · have hall2 : Hid (∀ j, 1 ≤ j → j < 1 + 1 → okAt (s.data.toList.drop pos) a.toNat j = true) := by
                intro j j1 j2
                obtain rfl : j = 1 := by omega
                exact hq
              rw [hq] at M2
              clear hq hall hk
              go_wp2_with fail
              with_reducible refine (M1 _).mono ?_
              rintro e w1 ⟨rfl, rfl⟩
              go_wp2_with fail
              with_reducible refine (M2 _).mono ?_
              rintro e w1 ⟨rfl, rfl⟩
              go_wp2
              go_roundw
              case rel => exact ⟨1 + 1, by omega, by omega, by go_num, hall2, trivial⟩
              case measure => simp [intOf]
            · have hq' : okAt (s.data.toList.drop pos) a.toNat 1 = false := by simpa using hq
              have HR := Lib.hid (HNO.out 1 (by omega) (by omega) hq')
              rw [hq'] at M2
              clear hq hq' hall hk
              go_wp2_with fail
              with_reducible refine (M1 _).mono ?_
              rintro e w1 ⟨rfl, rfl⟩
              go_wp2_with fail
              with_reducible refine (M2 _).mono ?_
              rintro e w1 ⟨rfl, rfl⟩
              go_wp2
              go_ret
              exact ⟨ret_int (by rw [HR.out]; rfl), rfl⟩
          · rw [if_neg hq1, if_neg hq1] at hk
            rw [← hk] at M1
            have hq2 : ¬ ((k : Int) = 1) := by omega
            by_cases hq : okAt (s.data.toList.drop pos) a.toNat k = true
            · have hall2 : Hid (∀ j, 1 ≤ j → j < k + 1 → okAt (s.data.toList.drop pos) a.toNat j = true) := by
                intro j j1 j2
                by_cases hj : j = k
                · rw [hj]; exact hq
                · exact hall.out j j1 (by omega)
              rw [hq] at M1
              clear hq hall hk M2
              go_wp2_with fail
              with_reducible refine (M1 _).mono ?_
              rintro e w1 ⟨rfl, rfl⟩
              go_wp2
              go_roundw
              case rel => exact ⟨k + 1, by omega, by omega, by go_num, hall2, trivial⟩
              case measure => simp [intOf]; omega
            · have hq' : okAt (s.data.toList.drop pos) a.toNat k = false := by simpa using hq
              have HR := Lib.hid (HNO.out k (by omega) (by omega) hq')
              rw [hq'] at M1
              clear hq hq' hall hk M2
              go_wp2_with fail
              with_reducible refine (M1 _).mono ?_
              rintro e w1 ⟨rfl, rfl⟩
              go_wp2
              go_ret
              exact ⟨ret_int (by rw [HR.out]; rfl), rfl⟩
        · obtain rfl : k = 4 := by omega
          have HR := Lib.hid (HYES.out hall.out)
          clear hall
          go_wp2
          go_ret
          exact ⟨ret_int (by rw [HR.out]; rfl), rfl⟩

end Go.Proofs.YtbadingdklenhaaGreatDoor
