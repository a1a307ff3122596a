/-
  What the document's token does (package secateurref08).
-/
import Derived.Test.YtbadingdklenhaaGreatDoorLexTok
namespace Go.Proofs.YtbadingdklenhaaGreatDoor
set_option maxRecDepth 100000
open Go.RowKit

/-! ### token -/
/-- A run that Lex hands to token: letters and digits, or '-' and such. -/
def RunOk (w : List UInt8) : Prop := ∃ c r, w = c :: r ∧ (∀ b ∈ r, isA b = true) ∧ (isA c = true ∨ (c = 45 ∧ r ≠ []))
def cntL (w : List UInt8) : Nat := w.countP isL
theorem cntL_step {w : List UInt8} {k : Nat} {b : UInt8} (h : w[k]? = some b) : cntL (w.take (k + 1)) = cntL (w.take k) + (if isL b = true then 1 else 0) := by
  unfold cntL
  rw [List.take_add_one, h, List.countP_append]
  simp [List.countP_cons]
theorem cntL_all {w : List UInt8} : cntL w = w.length ↔ w.all isL = true := by
  unfold cntL
  rw [List.countP_eq_length, List.all_eq_true]
theorem cntL_zero {w : List UInt8} (h : cntL w = 0) (b : UInt8) (hb : b ∈ w) : isL b = false := by
  unfold cntL at h
  have := (List.countP_eq_zero.1 h) b hb
  simpa using this
theorem cntL_le (w : List UInt8) : cntL w ≤ w.length := List.countP_le_length
theorem run_unsg {w : List UInt8} (h : RunOk w) : unsg w ≠ [] := by
  obtain ⟨c, r, rfl, h1, h2⟩ := h
  rcases h2 with h2 | ⟨rfl, h2⟩
  · rw [(unsg_plain (isA_low h2).2.2.2).1]; simp
  · rw [(unsg_minus r).1]; exact h2
theorem run_mixed {w : List UInt8} (h : RunOk w) (h0 : 0 < cntL w) (h1 : ¬ (w.all isL = true)) : rd w = (21, 0, 0) := by
  refine rd_mixed (fun h2 => h1 h2.1) ?_
  obtain ⟨c, r, rfl, h2, h3⟩ := h
  rw [Bool.eq_false_iff]
  intro h4
  have h5 : ∀ b ∈ (c :: r), isL b = false := by
    intro b hb
    rcases h3 with h3 | ⟨rfl, h3⟩
    · rw [(unsg_plain (isA_low h3).2.2.2).1] at h4
      have := isD_num.1 (List.all_eq_true.1 h4 b hb)
      unfold isL
      simp
      omega
    · rw [(unsg_minus r).1] at h4
      rcases List.mem_cons.1 hb with rfl | hb
      · rfl
      · have := isD_num.1 (List.all_eq_true.1 h4 b hb)
        unfold isL
        simp
        omega
  have : cntL (c :: r) = 0 := List.countP_eq_zero.2 (fun b hb => by rw [h5 b hb]; simp)
  omega
theorem run_digits {w : List UInt8} (h : RunOk w) (h0 : cntL w = 0) : (unsg w).all isD = true ∧ (∀ b ∈ w, b = 45 ∨ isD b = true) := by
  have hz := cntL_zero h0
  obtain ⟨c, r, rfl, h2, h3⟩ := h
  have h4 : ∀ b ∈ r, isD b = true := by
    intro b hb
    have h5 := h2 b hb
    unfold isA at h5
    rw [hz b (List.mem_cons_of_mem _ hb)] at h5
    simpa using h5
  rcases h3 with h3 | ⟨rfl, h3⟩
  · have h5 : isD c = true := by
      unfold isA at h3
      rw [hz c (List.mem_cons_self ..)] at h3
      simpa using h3
    rw [(unsg_plain (isA_low h3).2.2.2).1]
    refine ⟨?_, ?_⟩
    · simp only [List.all_cons, h5, Bool.true_and]
      exact List.all_eq_true.2 h4
    · intro b hb
      rcases List.mem_cons.1 hb with rfl | hb
      · exact .inr h5
      · exact .inr (h4 b hb)
  · rw [(unsg_minus r).1]
    refine ⟨List.all_eq_true.2 h4, ?_⟩
    intro b hb
    rcases List.mem_cons.1 hb with rfl | hb
    · exact .inl rfl
    · exact .inr (h4 b hb)
/-- The number that the digits of a run's beginning write. -/
def da (w : List UInt8) : Nat := dv (w.filter (· != 45))
theorem dv_snoc (l : List UInt8) (b : UInt8) : dv (l ++ [b]) = 10 * dv l + (b.toNat - 48) := by
  unfold dv
  rw [List.foldl_append]
  rfl
theorem da_skip {w : List UInt8} {k : Nat} (h : w[k]? = some 45) : da (w.take (k + 1)) = da (w.take k) := by
  unfold da
  rw [List.take_add_one, h, List.filter_append]
  simp
theorem da_step {w : List UInt8} {k : Nat} {b : UInt8} (h : w[k]? = some b) (hb : b ≠ 45) : da (w.take (k + 1)) = 10 * da (w.take k) + (b.toNat - 48) := by
  unfold da
  rw [List.take_add_one, h, List.filter_append]
  have : ([b].filter (· != 45)) = [b] := by simp [hb]
  simp only [Option.toList]
  rw [this, dv_snoc]
theorem dv_app_ge (l m : List UInt8) : dv l ≤ dv (l ++ m) := by
  unfold dv
  rw [List.foldl_append]
  exact fold_ge m _
theorem da_le (w : List UInt8) (k : Nat) : da (w.take k) ≤ da w := by
  unfold da
  conv => rhs; rw [← List.take_append_drop k w]
  rw [List.filter_append]
  exact dv_app_ge _ _
theorem run_val {w : List UInt8} (h : RunOk w) : valW w = if w.head? = some 45 then -(da w : Int) else (da w : Int) := by
  obtain ⟨c, r, rfl, h2, h3⟩ := h
  have hr : r.filter (· != 45) = r := by
    rw [List.filter_eq_self]
    intro b hb
    have := (isA_low (h2 b hb)).2.2.2
    simpa using this
  rcases h3 with h3 | ⟨rfl, h3⟩
  · have hc := (isA_low h3).2.2.2
    unfold valW da
    rw [(unsg_plain hc).2, if_neg (by simp)]
    rw [List.filter_cons, hr]
    simp [hc]
  · unfold valW da
    rw [(unsg_minus r).2, (unsg_minus r).1, List.filter_cons, hr]
    simp

theorem low_quo (d : Nat) (h : d ≤ 9) : (-9223372036854775808 + (d : Int)).tdiv 10 = -((9223372036854775808 - (d : Int)) / 10) := by
  rw [show (-9223372036854775808 + (d : Int)) = -(9223372036854775808 - (d : Int)) by omega, Int.neg_tdiv, Int.tdiv_eq_ediv_of_nonneg (by omega)]
theorem at_byte {s : ByteArray} {k : Nat} (h : k < s.size) : s.data.toList[k]? = some (s[k]'h) := by
  rw [get_list s k h]
  congr 1
  exact get_at s k h
theorem isL_if (b : UInt8) (n : Nat) : n + (if isL b = true then 1 else 0) ≤ n + 1 := by split <;> omega

set_option maxHeartbeats 4000000 in
theorem rtoken_any (s : ByteArray) (hs : s.size ≤ 281474976710656) (hR : RunOk s.data.toList) (w : World) :
    Calls Tryz.prog 57 #[.string s] w fun e w' => e = .returned (rdV s) ∧ Below w.heap.size w w' := by
  have hsz := size_list s
  have h0 : 0 < s.size := by
    obtain ⟨c, r, e, _⟩ := hR
    rw [← hsz, e]
    simp
  have h0' : (0 : Int) < (s.size : Int) := by omega
  go_enter Tryz.func57, Tryz.ntmps57
  go_wp2
  go_loopw [4, 5, 6] (fun a b i wr => ∃ k ld : Nat, k ≤ s.size ∧ ld ≤ k ∧ a = .int .i64 (cntL (s.data.toList.take k) : Nat) ∧ b = .int .i64 (ld : Nat) ∧ i = .int .i64 (k : Nat) ∧ wr = w.alloc (.cells #[.int .i64 0, .string ⟨#[]⟩, .int .i64 0, .int .i64 0, .int .i64 0] 95)) (fun _ _ i _ => s.size - (intOf i).toNat)
  case atStart => exact ⟨0, 0, by omega, by omega, rfl, rfl, rfl, rfl⟩
  case round =>
    obtain ⟨k, ld, hk, hld, rfl, rfl, rfl, rfl⟩ := hrel
    by_cases hlt : k < s.size
    · have hb := at_byte hlt
      have hst := cntL_step hb
      have hcl := cntL_le (s.data.toList.take k)
      rw [List.length_take] at hcl
      have RL := rLetter_any (s[k]'hlt)
      have RD := rDigit_any (s[k]'hlt)
      by_cases q1 : isL (s[k]'hlt) = true
      · rw [q1] at RL
        rw [if_pos q1] at hst
        by_cases q2 : isD (s[k]'hlt) = true
        · rw [q2] at RD
          have HS := Lib.hid hst
          clear hb hst q1 q2
          go_wp2_with fail
          with_reducible refine (RL _).mono ?_
          rintro e w1 ⟨rfl, rfl⟩
          go_wp2_with fail
          with_reducible refine (RD _).mono ?_
          rintro e w1 ⟨rfl, rfl⟩
          go_wp2
          go_roundw
          case rel => exact ⟨k + 1, ld + 1, by omega, by omega, by rw [HS.out]; go_num, by go_num, by go_num, trivial⟩
          case measure => simp [intOf]; omega
        · rw [show isD (s[k]'hlt) = false by simpa using q2] at RD
          have HS := Lib.hid hst
          clear hb hst q1 q2
          go_wp2_with fail
          with_reducible refine (RL _).mono ?_
          rintro e w1 ⟨rfl, rfl⟩
          go_wp2_with fail
          with_reducible refine (RD _).mono ?_
          rintro e w1 ⟨rfl, rfl⟩
          go_wp2
          go_roundw
          case rel => exact ⟨k + 1, ld, by omega, by omega, by rw [HS.out]; go_num, by go_num, by go_num, trivial⟩
          case measure => simp [intOf]; omega
      · rw [show isL (s[k]'hlt) = false by simpa using q1] at RL
        rw [if_neg q1] at hst
        by_cases q2 : isD (s[k]'hlt) = true
        · rw [q2] at RD
          have HS := Lib.hid hst
          clear hb hst q1 q2
          go_wp2_with fail
          with_reducible refine (RL _).mono ?_
          rintro e w1 ⟨rfl, rfl⟩
          go_wp2_with fail
          with_reducible refine (RD _).mono ?_
          rintro e w1 ⟨rfl, rfl⟩
          go_wp2
          go_roundw
          case rel => exact ⟨k + 1, ld + 1, by omega, by omega, by rw [HS.out]; go_num, by go_num, by go_num, trivial⟩
          case measure => simp [intOf]; omega
        · rw [show isD (s[k]'hlt) = false by simpa using q2] at RD
          have HS := Lib.hid hst
          clear hb hst q1 q2
          go_wp2_with fail
          with_reducible refine (RL _).mono ?_
          rintro e w1 ⟨rfl, rfl⟩
          go_wp2_with fail
          with_reducible refine (RD _).mono ?_
          rintro e w1 ⟨rfl, rfl⟩
          go_wp2
          go_roundw
          case rel => exact ⟨k + 1, ld, by omega, by omega, by rw [HS.out]; go_num, by go_num, by go_num, trivial⟩
          case measure => simp [intOf]; omega
    · obtain rfl : k = s.size := by omega
      have hT : s.data.toList.take s.size = s.data.toList := List.take_of_length_le (by omega)
      have e1 := cntL_all (w := s.data.toList)
      rw [hT]
      have hcl := cntL_le s.data.toList
      rw [hsz] at hcl e1
      clear hT
      by_cases h1 : s.data.toList.all isL = true
      · have hc := e1.2 h1
        rw [hc]
        by_cases h2 : s.data.toList.length ≤ 32
        · have hV : rdV s = .tuple #[tokV 0 s 0 0 0, .int .i64 0] := by unfold rdV; rw [rd_word h1 h2]; rfl
          have HV := Lib.hid hV
          rw [hsz] at h2
          clear hV e1 h1 hc hR
          go_wp2
          refine bodyPost_ret (v := .tuple #[tokV 0 s 0 0 0, .int .i64 0]) (by simp [results, Tryz.results57, go_sem, tokV]) rfl ⟨congrArg Ending.returned HV.out.symm, ?_⟩
          go_grown
        · have hr : rd s.data.toList = (21, 0, 0) := by
            unfold rd
            rw [if_pos h1, if_neg h2]
          have hV : rdV s = .tuple #[tokV 0 ⟨#[]⟩ 0 0 0, .int .i64 21] := by unfold rdV; rw [hr]; rfl
          have HV := Lib.hid hV
          rw [hsz] at h2
          clear hV e1 h1 hc hR hr
          go_wp2
          refine bodyPost_ret (v := .tuple #[tokV 0 ⟨#[]⟩ 0 0 0, .int .i64 21]) (by simp [results, Tryz.results57, go_sem, tokV]) rfl ⟨congrArg Ending.returned HV.out.symm, ?_⟩
          go_grown
      · have hne : ¬ ((cntL s.data.toList : Nat) : Int) = (s.size : Int) := fun h => h1 (e1.1 (by omega))
        by_cases h2 : 0 < cntL s.data.toList
        · have hV : rdV s = .tuple #[tokV 0 ⟨#[]⟩ 0 0 0, .int .i64 21] := by unfold rdV; rw [run_mixed hR h2 h1]; rfl
          have HV := Lib.hid hV
          generalize cntL s.data.toList = c at *
          clear hV e1 h1 hR
          go_wp2
          refine bodyPost_ret (v := .tuple #[tokV 0 ⟨#[]⟩ 0 0 0, .int .i64 21]) (by simp [results, Tryz.results57, go_sem, tokV]) rfl ⟨congrArg Ending.returned HV.out.symm, ?_⟩
          go_grown
        · have hc0 : cntL s.data.toList = 0 := by omega
          obtain ⟨hd1, hd2⟩ := run_digits hR hc0
          have hrd := rd_num (run_unsg hR) hd1
          have hval := run_val hR
          have HD := Lib.hid hd2
          have HRD := Lib.hid hrd
          have HVAL := Lib.hid hval
          rw [hc0]
          clear e1 h1 hR hc0 hne hd1 hd2 hrd hval h2 hcl
          go_wp2
          go_loopw [9, 10] (fun n i wr => ∃ k : Nat, k ≤ s.size ∧ n = .int .i64 (-(da (s.data.toList.take k) : Int)) ∧ da (s.data.toList.take k) ≤ 9223372036854775808 ∧ i = .int .i64 (k : Nat) ∧ wr = w.alloc (.cells #[.int .i64 0, .string ⟨#[]⟩, .int .i64 0, .int .i64 0, .int .i64 0] 95)) (fun _ i _ => s.size - (intOf i).toNat)
          case atStart => exact ⟨0, by omega, rfl, Nat.zero_le _, rfl, rfl⟩
          case round =>
            obtain ⟨k, hk, rfl, hm, rfl, rfl⟩ := hrel
            by_cases hlt : k < s.size
            · have hb := at_byte hlt
              obtain ⟨b, hb2⟩ : ∃ b, s[k]'hlt = b := ⟨_, rfl⟩
              rw [hb2] at hb
              have hmem := List.mem_of_getElem? hb
              by_cases h45 : b = 45
              · have hst := da_skip (w := s.data.toList) (k := k) (by rw [hb, h45])
                have HS := Lib.hid hst
                have h45' : (b.toNat : Int) = 45 := by rw [h45]; rfl
                clear hst hb hmem h45
                go_wp2
                go_roundw
                case rel => exact ⟨k + 1, by omega, by rw [HS.out], by rw [HS.out]; exact hm, by go_num, trivial⟩
                case measure => simp [intOf]; omega
              · have hst := da_step hb h45
                have hdig := isD_num.1 ((HD.out b hmem).resolve_left h45)
                have h45' : ¬ (b.toNat : Int) = 45 := fun h => h45 ((byte_num (a := b) (n := 45) (by omega)).2 h)
                obtain ⟨D, hD⟩ : ∃ D : Nat, b.toNat = 48 + D := ⟨b.toNat - 48, by omega⟩
                have hD9 : D ≤ 9 := by omega
                have hle := da_le s.data.toList (k + 1)
                rw [hst, hD, show 48 + D - 48 = D by omega] at hle
                rw [hD, show 48 + D - 48 = D by omega] at hst
                have hDi : (b.toNat : Int) = 48 + (D : Int) := by omega
                have hq : (-9223372036854775808 + (48 + (D : Int) - 48)).tdiv 10 = -((9223372036854775808 - (D : Int)) / 10) := by
                  rw [show (48 + (D : Int) - 48) = (D : Int) by omega]
                  exact low_quo D hD9
                generalize da (s.data.toList.take k) = m at *
                have HS := Lib.hid hst
                by_cases hov : 10 * m + D ≤ 9223372036854775808
                · have hlo : ¬ (-(m : Int)) < -((9223372036854775808 - (D : Int)) / 10) := by omega
                  clear hst hb hmem h45 hle hdig
                  go_wp2
                  go_roundw
                  case rel => exact ⟨k + 1, by omega, by rw [HS.out]; exact congrArg (Value.int IntKind.i64) (by omega), by rw [HS.out]; exact hov, by go_num, trivial⟩
                  case measure => simp [intOf]; omega
                · have hlo : (-(m : Int)) < -((9223372036854775808 - (D : Int)) / 10) := by omega
                  have hbig : 9223372036854775808 < da s.data.toList := by omega
                  have hr : rd s.data.toList = (5, 0, 0) := by
                    rw [HRD.out, if_neg]
                    rw [HVAL.out]
                    split <;> omega
                  have hV : rdV s = .tuple #[tokV 0 ⟨#[]⟩ 0 0 0, .int .i64 5] := by unfold rdV; rw [hr]; rfl
                  have HV := Lib.hid hV
                  clear hst hb hmem h45 hdig hbig hr hV
                  go_wp2
                  refine bodyPost_ret (v := .tuple #[tokV 0 ⟨#[]⟩ 0 0 0, .int .i64 5]) (by simp [results, Tryz.results57, go_sem, tokV]) rfl ⟨congrArg Ending.returned HV.out.symm, ?_⟩
                  go_grown
            · obtain rfl : k = s.size := by omega
              have hT : s.data.toList.take s.size = s.data.toList := List.take_of_length_le (by omega)
              rw [hT] at hm
              rw [hT]
              obtain ⟨a, r, hl, ha⟩ := list_head h0
              have hh : s.data.toList.head? = some a := by rw [hl]; rfl
              have hval := HVAL.out
              rw [hh] at hval
              have hrd := HRD.out
              have n45 := byte_num (a := a) (n := 45) (by omega)
              clear hT HVAL HRD HD hl hh
              generalize da s.data.toList = m at *
              generalize hv : valW s.data.toList = v at *
              by_cases h45 : a = 45
              · rw [h45, if_pos rfl] at hval
                have hV : rdV s = .tuple #[tokV 1 s v 0 0, .int .i64 0] := by
                  unfold rdV
                  rw [hrd, if_pos (by omega)]
                  rfl
                have HV := Lib.hid hV
                have k45 : (a.toNat : Int) = 45 := n45.1 h45
                clear hV hrd n45 h45 hv
                subst ha
                subst hval
                go_wp2
                refine bodyPost_ret (v := .tuple #[tokV 1 s (-(m : Int)) 0 0, .int .i64 0]) (by simp [results, Tryz.results57, go_sem, tokV]) rfl ⟨congrArg Ending.returned HV.out.symm, ?_⟩
                go_grown
              · rw [if_neg (by simp [h45])] at hval
                have k45 : ¬ (a.toNat : Int) = 45 := fun h => h45 (n45.2 h)
                by_cases hbig : m = 9223372036854775808
                · have hV : rdV s = .tuple #[tokV 0 ⟨#[]⟩ 0 0 0, .int .i64 5] := by
                    unfold rdV
                    rw [hrd, if_neg (by omega)]
                    rfl
                  have HV := Lib.hid hV
                  clear hV hrd n45 h45 hv hval
                  subst ha
                  subst hbig
                  go_wp2
                  refine bodyPost_ret (v := .tuple #[tokV 0 ⟨#[]⟩ 0 0 0, .int .i64 5]) (by simp [results, Tryz.results57, go_sem, tokV]) rfl ⟨congrArg Ending.returned HV.out.symm, ?_⟩
                  go_grown
                · have hV : rdV s = .tuple #[tokV 1 s v 0 0, .int .i64 0] := by
                    unfold rdV
                    rw [hrd, if_pos (by omega)]
                    rfl
                  have HV := Lib.hid hV
                  have hbig' : ¬ (-(m : Int)) = -9223372036854775808 := by omega
                  clear hV hrd n45 h45 hv
                  subst ha
                  subst hval
                  go_wp2
                  refine bodyPost_ret (v := .tuple #[tokV 1 s (m : Int) 0 0, .int .i64 0]) (by simp [results, Tryz.results57, go_sem, tokV]) rfl ⟨congrArg Ending.returned HV.out.symm, ?_⟩
                  go_grown
end Go.Proofs.YtbadingdklenhaaGreatDoor
