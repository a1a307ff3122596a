/-
  BitsetJoins: what is in one of two sets, in both, in the first one alone, and whether one is within the other, is the document's answer (P3.3). Conditions: those of the given row (the library's table of math/bits lies as its initialiser lays it).
-/
import Derived.Test.YtooehfjappckmaaDoorPairKit
namespace Go.Proofs.YtooehfjappckmaaDoor.bitsetJoins
set_option maxRecDepth 100000
open Go.RowKit

set_option maxHeartbeats 20000000 in
theorem walk (s1 s2 : Int) (x1 : Option Addr) (l1 c1 : Nat) (z1 : List Int) (x2 : Option Addr) (l2 c2 : Nat) (z2 : List Int) (w : World) (hs1 : I64 s1) (hs2 : I64 s2) (r1 : IsRow w x1 l1 c1 z1) (r2 : IsRow w x2 l2 c2 z2) (hL : LibOk w) :
    Calls Tryd.prog 5 #[.agg #[.int .i64 s1, .int .i64 s2], .slice x1 l1 c1, .slice x2 l2 c2] w fun e w' => e = .returned (.bool true) ∧ Below w.heap.size w w' := by
  obtain ⟨k1, k2⟩ := row_cap r1
  obtain ⟨k3, k4⟩ := row_cap r2
  have b0 := one_below w (.cells #[.int .i64 s1, .int .i64 s2] 43)
  have M1 := made_any s1 x1 l1 c1 z1 _ hs1 k1 k2 (fun L hL => (nums_of r1 hL).below b0)
  have M2 := fun W hb => made_any s2 x2 l2 c2 z2 W hs2 k3 k4 (fun L hL => (nums_of r2 hL).below hb)
  have hz1 := sz_lt s1
  have hz2 := sz_lt s2
  have HZ := Lib.hid (sbox_new w (.int .i64 s1) (.int .i64 s2) 43)
  have HB := Lib.hid b0
  have HL := Lib.hid hL
  generalize sz s1 = n at *
  generalize sz s2 = m at *
  clear r1 r2 hs1 hs2 hL b0
  go_enter Tryd.func5, Tryd.ntmps5
  go_wp2_with fail
  with_reducible refine M1.mono ?_
  rintro e w1 ⟨⟨p, xa, ca, ya, da, rfl, S1, D1⟩, b1⟩
  have b1' := on b1 (one_below w1 (.cells #[.int .i64 n, .slice xa (nw n) ca] 25))
  have HB1 := Lib.hid (on HB.out b1')
  have M2 := M2 _ HB1.out
  have HZ := Lib.hid (HZ.out.next b1')
  have HA := Lib.hid (sbox_new w1 (.int .i64 n) (.slice xa (nw n) ca) 25)
  have HSA := Lib.hid (S1.below (one_below w1 (.cells #[.int .i64 n, .slice xa (nw n) ca] 25)))
  have HDA := Lib.hid (D1.below (one_below w1 (.cells #[.int .i64 n, .slice xa (nw n) ca] 25)))
  clear b1 b1' S1 D1 M1 HB
  obtain ⟨q0, q1, q2, q3, q4⟩ := HZ.out
  go_wp2_with fail
  with_reducible refine M2.mono ?_
  rintro e w2 ⟨⟨q, xb, cb, yb, db, rfl, S2, D2⟩, b2⟩
  have b2' := on b2 (one_below w2 (.cells #[.int .i64 m, .slice xb (nw m) cb] 25))
  have HB2 := on HB1.out b2'
  have P : Hid (Two w n m p q w1.heap.size w2.heap.size xa ca xb cb ya da yb db (w2.alloc (.cells #[.int .i64 m, .slice xb (nw m) cb] 25))) :=
    ⟨HA.out.next b2', sbox_new w2 _ _ _, HSA.out.below b2', S2.below (one_below _ _), HDA.out.below b2', D2.below (one_below _ _), HL.out.below HB2, HB2⟩
  clear b2 b2' S2 D2 M2 HB1 HZ HA HSA HDA HL HB2 q0 q1 q2 q3 q4
  obtain ⟨a0, a1, a2, a3⟩ := P.out.cells
  go_wp2_with fail
  with_reducible refine (or_any n m p q xa xb ca cb _ P.out.SA P.out.SB).mono ?_
  rintro e w4 ⟨⟨s, t, rfl, S⟩, b⟩
  have HS := Lib.hid S
  clear S
  have P := Lib.hid (P.out.next b)
  clear a0 a1 a2 a3 b
  obtain ⟨a0, a1, a2, a3⟩ := P.out.cells
  go_wp2_with fail
  with_reducible refine (each_or n m p q ya yb da db (by omega) P.out.SB.out _ P.out.X P.out.Y).mono ?_
  rintro e w5 ⟨⟨u, v, rfl, D⟩, b⟩
  have HS := Lib.hid (HS.out.below b)
  have HD := Lib.hid D
  clear D
  have P := Lib.hid (P.out.next b)
  clear a0 a1 a2 a3 b
  obtain ⟨a0, a1, a2, a3⟩ := P.out.cells
  go_wp2_with fail
  with_reducible refine (same_any n (orP n p q) s u t v _ HS.out HD.out P.out.ok).mono ?_
  rintro e w6 ⟨rfl, b⟩
  have P := Lib.hid (P.out.next b)
  clear a0 a1 a2 a3 b
  obtain ⟨a0, a1, a2, a3⟩ := P.out.cells
  clear HS HD
  go_wp2_with fail
  with_reducible refine (and_any n m p q xa xb ca cb _ P.out.SA P.out.SB).mono ?_
  rintro e w7 ⟨⟨s, t, rfl, S⟩, b⟩
  have HS := Lib.hid S
  clear S
  have P := Lib.hid (P.out.next b)
  clear a0 a1 a2 a3 b
  obtain ⟨a0, a1, a2, a3⟩ := P.out.cells
  go_wp2_with fail
  with_reducible refine (each_and n m p q ya yb da db (by omega) P.out.SB.out _ P.out.X P.out.Y).mono ?_
  rintro e w8 ⟨⟨u, v, rfl, D⟩, b⟩
  have HS := Lib.hid (HS.out.below b)
  have HD := Lib.hid D
  clear D
  have P := Lib.hid (P.out.next b)
  clear a0 a1 a2 a3 b
  obtain ⟨a0, a1, a2, a3⟩ := P.out.cells
  go_wp2_with fail
  with_reducible refine (same_any n (andP n p q) s u t v _ HS.out HD.out P.out.ok).mono ?_
  rintro e w9 ⟨rfl, b⟩
  have P := Lib.hid (P.out.next b)
  clear a0 a1 a2 a3 b
  obtain ⟨a0, a1, a2, a3⟩ := P.out.cells
  clear HS HD
  go_wp2_with fail
  with_reducible refine (less_any n m p q xa xb ca cb _ P.out.SA P.out.SB).mono ?_
  rintro e w10 ⟨⟨s, t, rfl, S⟩, b⟩
  have HS := Lib.hid S
  clear S
  have P := Lib.hid (P.out.next b)
  clear a0 a1 a2 a3 b
  obtain ⟨a0, a1, a2, a3⟩ := P.out.cells
  go_wp2_with fail
  with_reducible refine (each_less n m p q ya yb da db (by omega) P.out.SB.out _ P.out.X P.out.Y).mono ?_
  rintro e w11 ⟨⟨u, v, rfl, D⟩, b⟩
  have HS := Lib.hid (HS.out.below b)
  have HD := Lib.hid D
  clear D
  have P := Lib.hid (P.out.next b)
  clear a0 a1 a2 a3 b
  obtain ⟨a0, a1, a2, a3⟩ := P.out.cells
  go_wp2_with fail
  with_reducible refine (same_any n (lessP n p q) s u t v _ HS.out HD.out P.out.ok).mono ?_
  rintro e w12 ⟨rfl, b⟩
  have P := Lib.hid (P.out.next b)
  clear a0 a1 a2 a3 b
  obtain ⟨a0, a1, a2, a3⟩ := P.out.cells
  clear HS HD
  go_wp2_with fail
  with_reducible refine (each_less n m p q ya yb da db (by omega) P.out.SB.out _ P.out.X P.out.Y).mono ?_
  rintro e w13 ⟨⟨u, v, rfl, D⟩, b⟩
  have HD := Lib.hid D
  clear D
  have P := Lib.hid (P.out.next b)
  clear a0 a1 a2 a3 b
  obtain ⟨a0, a1, a2, a3⟩ := P.out.cells
  go_wp2_with fail
  with_reducible refine (rlist_any u v n (lessP n p q) (by omega) _ HD.out).mono ?_
  rintro e w14 ⟨⟨u2, v2, rfl, N⟩, b⟩
  clear N
  have P := Lib.hid (P.out.next b)
  clear a0 a1 a2 a3 b
  obtain ⟨a0, a1, a2, a3⟩ := P.out.cells
  clear HD
  have WIN := fun W h1 h2 => within_any n m p q xa xb ca cb W h1 h2
  have hI := wi_int n p q
  by_cases hnm : n = m
  · have hJ : ((n : Int) == (m : Int)) = true := by simp [hnm]
    have hJn : (n == m) = true := by simp [hnm]
    have hK := wi_int m q p
    cases hi : wi n p q with
    | true =>
      rw [hi] at hI WIN
      have he : Hid (eqB n m p q = wi m q p) := by show _ = _; unfold eqB; rw [hJn, hi]; rfl
      generalize wi m q p = K at *
      clear hJn hi hnm
      go_wp2_with fail
      with_reducible refine (each_less m n q p yb ya db da (by omega) P.out.SA.out _ P.out.Y P.out.X).mono ?_
      rintro e w15 ⟨⟨u3, v3, rfl, D⟩, b⟩
      have HD := Lib.hid D
      clear D
      have P := Lib.hid (P.out.next b)
      clear a0 a1 a2 a3 b
      obtain ⟨a0, a1, a2, a3⟩ := P.out.cells
      go_wp2_with fail
      with_reducible refine (rlist_any u3 v3 m (lessP m q p) (by omega) _ HD.out).mono ?_
      rintro e w16 ⟨⟨u4, v4, rfl, N⟩, b⟩
      clear N
      have P := Lib.hid (P.out.next b)
      clear a0 a1 a2 a3 b
      obtain ⟨a0, a1, a2, a3⟩ := P.out.cells
      clear HD
      go_wp2_with fail
      with_reducible refine (wakes_any _ P.out.ok).mono ?_
      rintro e w17 ⟨rfl, b⟩
      have P := Lib.hid (P.out.next b)
      clear a0 a1 a2 a3 b
      obtain ⟨a0, a1, a2, a3⟩ := P.out.cells
      go_wp2_with fail
      with_reducible refine (WIN _ P.out.SA P.out.SB).mono ?_
      rintro e w18 ⟨rfl, b⟩
      have P := Lib.hid (P.out.next b)
      clear a0 a1 a2 a3 b
      obtain ⟨a0, a1, a2, a3⟩ := P.out.cells
      have EQ := equal_any n m p q xa xb ca cb _ P.out.SA P.out.SB
      rw [he.out] at EQ
      go_wp2_with fail
      with_reducible refine (EQ).mono ?_
      rintro e w19 ⟨rfl, b⟩
      have P := Lib.hid (P.out.next b)
      clear a0 a1 a2 a3 b
      obtain ⟨a0, a1, a2, a3⟩ := P.out.cells
      clear EQ
      go_wp2_with fail
      with_reducible refine (same_any n p xa ya ca da _ P.out.SA P.out.X P.out.ok).mono ?_
      rintro e w20 ⟨rfl, b⟩
      have P := Lib.hid (P.out.next b)
      clear a0 a1 a2 a3 b
      obtain ⟨a0, a1, a2, a3⟩ := P.out.cells
      go_wp2_with fail
      with_reducible refine (same_any m q xb yb cb db _ P.out.SB P.out.Y P.out.ok).mono ?_
      rintro e w21 ⟨rfl, b⟩
      have P := Lib.hid (P.out.next b)
      clear a0 a1 a2 a3 b
      obtain ⟨a0, a1, a2, a3⟩ := P.out.cells
      have B := P.out.be
      clear P a0 a1 a2 a3
      go_wp2
      go_ret
      exact ⟨rfl, B⟩
    | false =>
      rw [hi] at hI WIN
      have he : Hid (eqB n m p q = false) := by show _ = _; unfold eqB; rw [hJn, hi]; rfl
      clear hJn hi hnm hK
      go_wp2_with fail
      with_reducible refine (wakes_any _ P.out.ok).mono ?_
      rintro e w22 ⟨rfl, b⟩
      have P := Lib.hid (P.out.next b)
      clear a0 a1 a2 a3 b
      obtain ⟨a0, a1, a2, a3⟩ := P.out.cells
      go_wp2_with fail
      with_reducible refine (WIN _ P.out.SA P.out.SB).mono ?_
      rintro e w23 ⟨rfl, b⟩
      have P := Lib.hid (P.out.next b)
      clear a0 a1 a2 a3 b
      obtain ⟨a0, a1, a2, a3⟩ := P.out.cells
      have EQ := equal_any n m p q xa xb ca cb _ P.out.SA P.out.SB
      rw [he.out] at EQ
      go_wp2_with fail
      with_reducible refine (EQ).mono ?_
      rintro e w24 ⟨rfl, b⟩
      have P := Lib.hid (P.out.next b)
      clear a0 a1 a2 a3 b
      obtain ⟨a0, a1, a2, a3⟩ := P.out.cells
      clear EQ
      go_wp2_with fail
      with_reducible refine (same_any n p xa ya ca da _ P.out.SA P.out.X P.out.ok).mono ?_
      rintro e w25 ⟨rfl, b⟩
      have P := Lib.hid (P.out.next b)
      clear a0 a1 a2 a3 b
      obtain ⟨a0, a1, a2, a3⟩ := P.out.cells
      go_wp2_with fail
      with_reducible refine (same_any m q xb yb cb db _ P.out.SB P.out.Y P.out.ok).mono ?_
      rintro e w26 ⟨rfl, b⟩
      have P := Lib.hid (P.out.next b)
      clear a0 a1 a2 a3 b
      obtain ⟨a0, a1, a2, a3⟩ := P.out.cells
      have B := P.out.be
      clear P a0 a1 a2 a3
      go_wp2
      go_ret
      exact ⟨rfl, B⟩
  · have hJ : ((n : Int) == (m : Int)) = false := by simp; omega
    have hJn : (n == m) = false := by simp [hnm]
    have he : Hid (eqB n m p q = false) := by show _ = _; unfold eqB; rw [hJn]; rfl
    generalize wi n p q = I at *
    clear hJn hnm
    go_wp2_with fail
    with_reducible refine (wakes_any _ P.out.ok).mono ?_
    rintro e w27 ⟨rfl, b⟩
    have P := Lib.hid (P.out.next b)
    clear a0 a1 a2 a3 b
    obtain ⟨a0, a1, a2, a3⟩ := P.out.cells
    go_wp2_with fail
    with_reducible refine (WIN _ P.out.SA P.out.SB).mono ?_
    rintro e w28 ⟨rfl, b⟩
    have P := Lib.hid (P.out.next b)
    clear a0 a1 a2 a3 b
    obtain ⟨a0, a1, a2, a3⟩ := P.out.cells
    have EQ := equal_any n m p q xa xb ca cb _ P.out.SA P.out.SB
    rw [he.out] at EQ
    go_wp2_with fail
    with_reducible refine (EQ).mono ?_
    rintro e w29 ⟨rfl, b⟩
    have P := Lib.hid (P.out.next b)
    clear a0 a1 a2 a3 b
    obtain ⟨a0, a1, a2, a3⟩ := P.out.cells
    clear EQ
    go_wp2_with fail
    with_reducible refine (same_any n p xa ya ca da _ P.out.SA P.out.X P.out.ok).mono ?_
    rintro e w30 ⟨rfl, b⟩
    have P := Lib.hid (P.out.next b)
    clear a0 a1 a2 a3 b
    obtain ⟨a0, a1, a2, a3⟩ := P.out.cells
    go_wp2_with fail
    with_reducible refine (same_any m q xb yb cb db _ P.out.SB P.out.Y P.out.ok).mono ?_
    rintro e w31 ⟨rfl, b⟩
    have P := Lib.hid (P.out.next b)
    clear a0 a1 a2 a3 b
    obtain ⟨a0, a1, a2, a3⟩ := P.out.cells
    have B := P.out.be
    clear P a0 a1 a2 a3
    go_wp2
    go_ret
    exact ⟨rfl, B⟩

/-! ### the row -/
open Go.ChangeShapes Go.WideShapes Go.ChangeAt
theorem lifted (os : Os) (started : os.Started) (H : Type) (enc : TypeId × Value → H) :
    ReturnsInHanded {} Tryd.checked os 5 .any (fun w args => (Rows.bitsetJoinsSpec.pre enc Tryd.prog Tryd.f5 [] false w args ∧ laidMetH Tryd.prog laidL w) ∧ sizedMet enc Tryd.prog Tryd.f5 (OpenSpec.ofChange Rows.bitsetJoinsSpec) false w args)
      (Rows.bitsetJoinsSpec.post enc Tryd.prog Tryd.f5 false true false false) := by
  refine returnsInHanded_of_change_and (C := Tryd.checked) (X := fun w _ => laidMetH Tryd.prog laidL w) (fun _ _ _ hh h => h.of_heap hh) own started (by kernel_rfl) Tryd.func5
    (ChangeSpec.witness_shaped (enc := enc) (C := Tryd.checked) (os := os) (X := fun w _ => laidMetH Tryd.prog laidL w) false (World.doorLaid Tryd.prog 400 os) #[.agg #[.int .i64 0, .int .i64 0], .slice none 0 0, .slice none 0 0] 8 rfl (World.shaped_of_RefB (by kernel_rfl) (by kernel_rfl)) (by kernel_rfl) (by kernel_rfl) (by kernel_rfl) (door_met os _)) ?_
  intro W base args ds gs before hval0 hW _ hsz0 hL _
  have hval : ∀ (j : Nat) t v, Tryd.f5.params[j]? = some t → args[j]? = some v → Value.okWide Tryd.prog W .any base t v := hval0
  have hW' := hW
  obtain ⟨p, q, hA0, hV, rfl, hfz, hnd⟩ := hW
  have hA : DataW.TrodAll enc Tryd.prog W 0 (fun _ => true) true Tryd.f5.params.toList args.toList ds p := hA0
  rw [Tryd.params5] at hA hval
  obtain ⟨v0, vs0, d0, ds0, p0, q0, hargs, rfl, rfl, h0, r0⟩ := trodAll_cons hA
  obtain ⟨v1, vs1, d1, ds1, p1, q1, rfl, rfl, rfl, h1, r1⟩ := trodAll_cons r0
  obtain ⟨v2, vs2, d2, ds2, p2, q2, rfl, rfl, rfl, h2, r2⟩ := trodAll_cons r1
  obtain ⟨rfl, rfl, rfl⟩ := trodAll_nil r2
  obtain rfl : args = #[v0, v1, v2] := by cases args; simp_all
  obtain ⟨rfl, rfl⟩ := trodVars_none hV
  have k0 := h0
  have lt0 : ∀ x ∈ p0, x.block < W.heap.size := by obtain ⟨m, hm⟩ := k0; exact DataW.trod_lt m _ _ _ hm
  obtain ⟨a0, b0, wa0, wb0, rfl⟩ := open_pair (hval 0 43 v0 rfl rfl) h0
  have k1 := h1
  have lt1 : ∀ x ∈ p1, x.block < W.heap.size := by obtain ⟨m, hm⟩ := k1; exact DataW.trod_lt m _ _ _ hm
  obtain ⟨x1, l1, c1, zs1, w1, rfl⟩ := open_row (hval 1 22 v1 rfl rfl) h1
  have k2 := h2
  have lt2 : ∀ x ∈ p2, x.block < W.heap.size := by obtain ⟨m, hm⟩ := k2; exact DataW.trod_lt m _ _ _ hm
  obtain ⟨x2, l2, c2, zs2, w2, rfl⟩ := open_row (hval 2 22 v2 rfl rfl) h2
  clear hA0 hval0
  refine (walk a0 b0 x1 l1 c1 zs1 x2 l2 c2 zs2 W wa0 wb0 w1 w2 (libOk_of_laid hL)).mono fun e W' ⟨he, bel⟩ => ?_
  subst he
  exact ⟨_, rfl, _, _, _, [], _, [], hW', trodAll_mk1 (shut_bool Tryd.underlying4 _), (trodAll_cons_mk (Below.trod laidOut (by kernel_rfl) (of_decide_eq_true (by kernel_rfl)) k0 bel lt0) (trodAll_cons_mk (Below.trod laidOut (by kernel_rfl) (of_decide_eq_true (by kernel_rfl)) k1 bel lt1) (trodAll_cons_mk (Below.trod laidOut (by kernel_rfl) (of_decide_eq_true (by kernel_rfl)) k2 bel lt2) trodAll_mk0))), rfl, bel.frame _, fun h => by cases h⟩

theorem over : Rows.bitsetJoinsRow.holds Tryd.pinned (OpenSpec.ofChange Rows.bitsetJoinsSpec) :=
  OpenClaim.holds_of_wide 5 Tryd.f5 rfl rfl rfl rfl rfl rfl rfl ⟨rfl, rfl, rfl, rfl, rfl⟩ rfl rfl rfl rfl rfl (by kernel_rfl) Tryd.func5 (by kernel_rfl)
    (of_decide_eq_true (by kernel_rfl)) (by unfold Func.isWrapper; first | (rw [if_pos (by decide +kernel)]; kernel_rfl) | (rw [if_neg (by decide +kernel)]; exact ⟨rfl, rfl⟩))
    (fun os started H enc _ => lifted os started H enc)

theorem card : Rows.BitsetJoinsCardSaid :=
  Claim7.holds_tied_plain_at .later [] [.data] true _ false
    over (fun _ h => by cases h) (by kernel_rfl) (fun _ h => by cases h) bitsetJoins_row_tie rfl ⟨rfl, rfl⟩ (by kernel_rfl) rfl
    (fun f fn hf hfn => by
      obtain rfl : f = 5 := Option.some.inj ((show Tryd.prog.funcNamed Rows.bitsetJoinsRow.func = some 5 by kernel_rfl).symm.trans hf) |>.symm
      obtain rfl : fn = Tryd.f5 := (Option.some.inj (Tryd.func5.symm.trans hfn)).symm
      exact ⟨by kernel_rfl, fun j t ht => by
        rw [Tryd.params5] at ht
        have hm : t ∈ [43, 22, 22] := by simpa using Array.mem_of_getElem? ht
        have hall : ([43, 22, 22].all fun u => !Tryd.prog.wantsStandIn u) = true := by kernel_rfl
        exact (show Tryd.prog.wantsStandIn t = false by simpa using List.all_eq_true.1 hall t hm)⟩)
    (by kernel_rfl)

end Go.Proofs.YtooehfjappckmaaDoor.bitsetJoins
namespace Go.Proofs.YtooehfjappckmaaDoor
theorem bitsetJoins_holds : Rows.BitsetJoinsCardSaid := bitsetJoins.card
#print axioms bitsetJoins_holds
end Go.Proofs.YtooehfjappckmaaDoor
