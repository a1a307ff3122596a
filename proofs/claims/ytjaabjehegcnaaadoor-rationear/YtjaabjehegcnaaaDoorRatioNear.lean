/-
  RatioNear: the simplest ratio between every two lies between them, and has no greater Den than either; of two that are the same it is that; it is turned round with both. For every four numbers of 64 bits.
  Conditions: none beyond the given statement's own.
-/
import Derived.Test.YtjaabjehegcnaaaDoorLoopKit
import Derived.Test.YtjaabjehegcnaaaDoorNearMath
import Derived.Test.YtjaabjehegcnaaaDoorLaidFrame
namespace Go.Proofs.YtjaabjehegcnaaaDoor.ratioNear
set_option maxRecDepth 100000
open Go.RowKit

theorem kwrap64 {x : Int} (h : I64 x) : wrap64 x = x := wrap_in h
theorem neg_or {x : Int} (h : I64 x) : (I64 (-x) ∧ decide (-9223372036854775808 < x) = true) ∨ decide (-9223372036854775808 < x) = false := by
  by_cases hx : -9223372036854775808 < x
  · exact Or.inl ⟨by unfold I64 at *; omega, by simpa using hx⟩
  · exact Or.inr (by simpa using hx)

set_option maxHeartbeats 8000000 in
theorem walk (a b c d : Int) (ha : I64 a) (hb : I64 b) (hc : I64 c) (hd : I64 d) (w : World) (hL : LibOk w) :
    Calls Tryd.prog 10 #[.agg #[.int .i64 a, .int .i64 b], .agg #[.int .i64 c, .int .i64 d]] w fun e w' => e = .returned (.bool true) ∧ Below w.heap.size w w' := by
  have S1 := some_any a b ha hb
  have S2 := some_any c d hc hd
  have n1 := somes_len a b
  have n2 := somes_len c d
  obtain ⟨l1, h1⟩ : ∃ l, somes a b = l := ⟨_, rfl⟩
  obtain ⟨l2, h2⟩ : ∃ l, somes c d = l := ⟨_, rfl⟩
  rw [h1] at S1 n1
  rw [h2] at S2 n2
  clear h1 h2
  obtain ⟨m1, hm1⟩ : ∃ m, l1.length = m := ⟨_, rfl⟩
  obtain ⟨m2, hm2⟩ : ∃ m, l2.length = m := ⟨_, rfl⟩
  unfold IsSome at S1 S2
  rw [hm1] at S1 n1
  rw [hm2] at S2 n2
  have HM1 := Lib.hid hm1
  have HM2 := Lib.hid hm2
  clear hm1 hm2
  go_enter Tryd.func10, Tryd.ntmps10
  go_wp2_with fail
  with_reducible refine (S1 _).mono ?_
  rintro e w1 ⟨⟨g1, k1, rfl, q1, q2, R1⟩, b1⟩
  have O1 : Out w g1 l1 c d w1 := ⟨R1, (rbox_new2 w (.cells #[.int .i64 a, .int .i64 b] 31) c d 31).next b1, (hL.below (two_new w _ _)).below b1, on (two_new w _ _) b1⟩
  have H1 := Lib.hid O1
  clear O1 b1 R1 hL
  go_wp2_with fail
  go_loopw [17] (fun i wr => ∃ k : Nat, k ≤ m1 ∧ i = .int .i64 k ∧ Out w g1 l1 c d wr) (fun i _ => m1 - (intOf i).toNat)
  case atStart => exact ⟨0, by omega, rfl, H1.out⟩
  case round =>
    obtain ⟨k, hk, rfl, hO⟩ := hrel
    obtain ⟨wO, hwO⟩ : ∃ x, x = wr := ⟨wr, rfl⟩
    subst hwO
    by_cases hlt : k < m1
    · obtain ⟨p, q, hp, hq, hi⟩ := hO.L.get (i := k) (by rw [HM1.out]; exact hlt)
      have HO := Lib.hid hO
      obtain ⟨y0, y1, y2, y3, y4⟩ := hO.Y
      clear hO
      obtain ⟨ip, iq⟩ := hi
      have bA := new_below wO (.cells #[.int .i64 p, .int .i64 q] 23)
      have OA := Lib.hid (HO.out.next bA)
      have RA := Lib.hid (rbox_new wO p q 23)
      clear bA HO
      go_wp2_with fail
      with_reducible refine (S2 _).mono ?_
      rintro e w2 ⟨⟨g2, k2, rfl, r1, r2, R2⟩, b2⟩
      have HI := Lib.hid (Inn.mk (OA.out.next b2) (RA.out.next b2) R2)
      clear b2 R2 OA RA y0 y1 y2 y3 y4 hp hq
      have SI := Lib.hid (fun r s ir is => simplest_any p q r s ip iq ir is)
      have GA := good_any p q ip iq
      have GB := Lib.hid (fun r s ir is => good_any r s ir is)
      have CC := Lib.hid (fun r s ir is => rcmpP p q r s ip iq ir is)
      go_wp2_with fail
      go_loopw [24] (fun i wr' => ∃ k' : Nat, k' ≤ m2 ∧ i = .int .i64 k' ∧ Inn w g1 l1 c d wO.heap.size p q g2 l2 wr') (fun i _ => m2 - (intOf i).toNat)
      case atStart => exact ⟨0, by omega, rfl, HI.out⟩
      case round =>
        obtain ⟨k', hk', rfl, hN⟩ := hrel
        by_cases hlt' : k' < m2
        · obtain ⟨r, s, hr, hs, ir, is⟩ := hN.M.get (i := k') (by rw [HM2.out]; exact hlt')
          have HN := Lib.hid hN
          obtain ⟨a0, a1, a2, a3, a4⟩ := hN.A
          clear hN
          have NA := Lib.hid (HN.out.next (new_below wr (.cells #[.int .i64 r, .int .i64 s] 23)))
          have NB := Lib.hid (rbox_new wr r s 23)
          clear HN
          have c1 := SI.out r s ir is
          unfold smpV at c1
          have g2 := GB.out r s ir is
          have c2 := CC.out r s ir is
          by_cases h1 : goodB p q = true
          · have g1 := GA
            rw [h1] at g1
            by_cases h2 : goodB r s = true
            · rw [h2] at g2
              by_cases h3 : rcm p q r s ≤ 0
              · by_cases hB : smpB p q r s = true
                · rw [hB] at c1
                  have hN := near_of hB
                  have hT := near_turn ip ir hB
                  obtain ⟨ix1, ix2, ix3⟩ := near_in (c := r) ip iq is
                  have hS := fun (e1 : p = r) (e2 : q = s) => near_same (n := smpN p q r s) (m := smpD p q r s) h1 (by subst e1; subst e2; exact hN)
                  have g3 := good_any _ _ ix1 ix2
                  rw [hN.good] at g3
                  have c3 := rcmpP p q _ _ ip iq ix1 ix2
                  have c4 := rcmpP _ _ r s ix1 ix2 ir is
                  have v3 := rcm_of_le h1 hN.good hN.low
                  have v4 := rcm_of_le hN.good h2 hN.high
                  have dn1 := hN.den1
                  have dn2 := hN.den2
                  have S5 := fun (jp : I64 (-p)) (jr : I64 (-r)) => simplest_any (-r) s (-p) q jr is jp iq
                  unfold smpV at S5
                  rw [hT.1, hT.2.1, hT.2.2] at S5
                  obtain ⟨x1, e1⟩ : ∃ x, smpN p q r s = x := ⟨_, rfl⟩
                  obtain ⟨x2, e2⟩ : ∃ x, smpD p q r s = x := ⟨_, rfl⟩
                  rw [e1, e2] at c1 hS g3 c3 c4 v3 v4 S5
                  rw [e1] at ix1 ix3
                  rw [e2] at ix2 dn1 dn2
                  obtain ⟨u0, f0⟩ : ∃ x, rcm p q r s = x := ⟨_, rfl⟩
                  obtain ⟨u3, f3⟩ : ∃ x, rcm p q x1 x2 = x := ⟨_, rfl⟩
                  obtain ⟨u4, f4⟩ : ∃ x, rcm x1 x2 r s = x := ⟨_, rfl⟩
                  rw [f0] at c2 h3
                  rw [f3] at c3 v3
                  rw [f4] at c4 v4
                  have t0 : decide (u0 ≤ 0) = true := by simpa using h3
                  have t3 : decide (0 < u3) = false := by simp; omega
                  have t4 : decide (0 < u4) = false := by simp; omega
                  have t5 : decide (q < x2) = false := by simp; omega
                  have t6 : decide (s < x2) = false := by simp; omega
                  have HS5 := Lib.hid S5
                  have HSm := Lib.hid hS
                  clear e1 e2 f0 f3 f4 hN hT hB h1 h2 S5 hS
                  go_wp2_with fail
                  with_reducible refine (c1 _).mono ?_
                  rintro e w3 ⟨rfl, b3⟩
                  have N3 := NA.out.next b3
                  have M3 := NB.out.next b3
                  have o3 := new_below w3 (.cells #[.int .i64 x1, .int .i64 x2] 23)
                  have NA3 := Lib.hid (N3.next o3)
                  have NB3 := Lib.hid (M3.next o3)
                  have NS3 := Lib.hid (rbox_new w3 x1 x2 23)
                  clear NA NB b3 a0 a1 a2 a3 a4 hr hs o3
                  obtain ⟨a0, a1, a2, a3, a4⟩ := N3.A
                  obtain ⟨d0, d1, d2, d3, d4⟩ := M3
                  clear N3
                  go_wp2_with fail
                  with_reducible refine (g1 _).mono ?_
                  rintro e w4 ⟨rfl, b4⟩
                  have NA4 := Lib.hid (NA3.out.next b4)
                  have NB4 := Lib.hid (NB3.out.next b4)
                  have NS4 := Lib.hid (NS3.out.next b4)
                  clear NA3 NB3 NS3 b4 a0 a1 a2 a3 a4 d0 d1 d2 d3 d4
                  obtain ⟨a0, a1, a2, a3, a4⟩ := NA4.out.A
                  obtain ⟨d0, d1, d2, d3, d4⟩ := NB4.out
                  obtain ⟨s0, s1, s2, s3, s4⟩ := NS4.out
                  go_wp2_with fail
                  with_reducible refine (g2 _).mono ?_
                  rintro e w5 ⟨rfl, b5⟩
                  have NA5 := Lib.hid (NA4.out.next b5)
                  have NB5 := Lib.hid (NB4.out.next b5)
                  have NS5 := Lib.hid (NS4.out.next b5)
                  clear NA4 NB4 NS4 b5 a0 a1 a2 a3 a4 d0 d1 d2 d3 d4 s0 s1 s2 s3 s4
                  obtain ⟨a0, a1, a2, a3, a4⟩ := NA5.out.A
                  obtain ⟨d0, d1, d2, d3, d4⟩ := NB5.out
                  obtain ⟨s0, s1, s2, s3, s4⟩ := NS5.out
                  go_wp2_with fail
                  with_reducible refine (c2 _).mono ?_
                  rintro e w6 ⟨rfl, b6⟩
                  have NA6 := Lib.hid (NA5.out.next b6)
                  have NB6 := Lib.hid (NB5.out.next b6)
                  have NS6 := Lib.hid (NS5.out.next b6)
                  clear NA5 NB5 NS5 b6 a0 a1 a2 a3 a4 d0 d1 d2 d3 d4 s0 s1 s2 s3 s4
                  obtain ⟨a0, a1, a2, a3, a4⟩ := NA6.out.A
                  obtain ⟨d0, d1, d2, d3, d4⟩ := NB6.out
                  obtain ⟨s0, s1, s2, s3, s4⟩ := NS6.out
                  go_wp2_with fail
                  with_reducible refine (g3 _).mono ?_
                  rintro e w7 ⟨rfl, b7⟩
                  have NA7 := Lib.hid (NA6.out.next b7)
                  have NB7 := Lib.hid (NB6.out.next b7)
                  have NS7 := Lib.hid (NS6.out.next b7)
                  clear NA6 NB6 NS6 b7 a0 a1 a2 a3 a4 d0 d1 d2 d3 d4 s0 s1 s2 s3 s4
                  obtain ⟨a0, a1, a2, a3, a4⟩ := NA7.out.A
                  obtain ⟨d0, d1, d2, d3, d4⟩ := NB7.out
                  obtain ⟨s0, s1, s2, s3, s4⟩ := NS7.out
                  go_wp2_with fail
                  with_reducible refine (c3 _).mono ?_
                  rintro e w8 ⟨rfl, b8⟩
                  have NA8 := Lib.hid (NA7.out.next b8)
                  have NB8 := Lib.hid (NB7.out.next b8)
                  have NS8 := Lib.hid (NS7.out.next b8)
                  clear NA7 NB7 NS7 b8 a0 a1 a2 a3 a4 d0 d1 d2 d3 d4 s0 s1 s2 s3 s4
                  obtain ⟨a0, a1, a2, a3, a4⟩ := NA8.out.A
                  obtain ⟨d0, d1, d2, d3, d4⟩ := NB8.out
                  obtain ⟨s0, s1, s2, s3, s4⟩ := NS8.out
                  go_wp2_with fail
                  with_reducible refine (c4 _).mono ?_
                  rintro e w9 ⟨rfl, b9⟩
                  have NA9 := Lib.hid (NA8.out.next b9)
                  have NB9 := Lib.hid (NB8.out.next b9)
                  have NS9 := Lib.hid (NS8.out.next b9)
                  clear NA8 NB8 NS8 b9 a0 a1 a2 a3 a4 d0 d1 d2 d3 d4 s0 s1 s2 s3 s4
                  obtain ⟨a0, a1, a2, a3, a4⟩ := NA9.out.A
                  obtain ⟨d0, d1, d2, d3, d4⟩ := NB9.out
                  obtain ⟨s0, s1, s2, s3, s4⟩ := NS9.out
                  have hW := Lib.hid (And.intro (kwrap64 (x := -p)) (And.intro (kwrap64 (x := -r)) (kwrap64 (x := -x1))))
                  have cases3 : ((p == r) = true ∧ (q == s) = true ∧ (x1 == p) = true ∧ (x2 == q) = true) ∨ (p == r) = false ∨ ((p == r) = true ∧ (q == s) = false) := by
                    by_cases e1 : p = r
                    · by_cases e2 : q = s
                      · obtain ⟨f1, f2⟩ := HSm.out e1 e2
                        exact Or.inl ⟨by simp [e1], by simp [e2], by simp [f1], by simp [f2]⟩
                      · exact Or.inr (Or.inr ⟨by simp [e1], by simp [e2]⟩)
                    · exact Or.inr (Or.inl (by simp [e1]))
                  have jp := neg_or ip
                  have jr := neg_or ir
                  clear HSm c1 g1 g2 c2 g3 c3 c4 GB CC SI S1 S2
                  rcases cases3 with ⟨z1, z2, z3, z4⟩ | z1 | ⟨z1, z2⟩
                  all_goals
                    rcases jp with ⟨jp, kp⟩ | kp
                    · rcases jr with ⟨jr, kr⟩ | kr
                      · have S5 := HS5.out jp jr
                        have jx := ix3 jp jr
                        have W1 := hW.out.1 jp
                        have W2 := hW.out.2.1 jr
                        have W3 := hW.out.2.2 jx
                        clear HS5 hW
                        go_wp2_with fail
                        with_reducible refine (S5 _).mono ?_
                        rintro e w10 ⟨rfl, b10⟩
                        have HI := Lib.hid ((NA9.out.next b10).next (new_below w10 (.cells #[.int .i64 (-x1), .int .i64 x2] 23)))
                        have NS10 := NS9.out.next b10
                        clear NA9 NB9 NS9 b10 a0 a1 a2 a3 a4 d0 d1 d2 d3 d4 s0 s1 s2 s3 s4 S5
                        obtain ⟨s0, s1, s2, s3, s4⟩ := NS10
                        go_wp2
                        go_roundw
                        case rel => exact ⟨k' + 1, by omega, by go_num, HI.out⟩
                        case measure => simp [intOf]; omega
                      · clear HS5 hW
                        have HI := Lib.hid NA9.out
                        clear NA9 NB9 NS9
                        go_wp2
                        go_roundw
                        case rel => exact ⟨k' + 1, by omega, by go_num, HI.out⟩
                        case measure => simp [intOf]; omega
                    · clear HS5 hW jr
                      have HI := Lib.hid NA9.out
                      clear NA9 NB9 NS9
                      go_wp2
                      go_roundw
                      case rel => exact ⟨k' + 1, by omega, by go_num, HI.out⟩
                      case measure => simp [intOf]; omega
                · have hn := near_none ip ir h1 h2 h3 (by simpa using hB)
                  have hB' : smpB p q r s = false := by simpa using hB
                  rw [hB'] at c1
                  obtain ⟨x1, e1⟩ : ∃ x, smpN p q r s = x := ⟨_, rfl⟩
                  obtain ⟨x2, e2⟩ : ∃ x, smpD p q r s = x := ⟨_, rfl⟩
                  rw [e1, e2] at c1
                  clear e1 e2 hB'
                  obtain ⟨u0, f0⟩ : ∃ x, rcm p q r s = x := ⟨_, rfl⟩
                  rw [f0] at c2 h3
                  have t0 : decide (u0 ≤ 0) = true := by simpa using h3
                  have t1 : decide (r < 0) = true := by simpa using hn.1
                  have hcs : (p == -9223372036854775808) = true ∨ ((p == -9223372036854775808) = false ∧ (r == -9223372036854775808) = true) := by
                    by_cases e1 : p = -9223372036854775808
                    · exact Or.inl (by simp [e1])
                    · rcases hn.2 with h | h
                      · exact absurd h e1
                      · exact Or.inr ⟨by simp [e1], by simp [h]⟩
                  clear f0 hn hB h1 h2
                  go_wp2_with fail
                  with_reducible refine (c1 _).mono ?_
                  rintro e w3 ⟨rfl, b3⟩
                  have N3 := NA.out.next b3
                  have M3 := NB.out.next b3
                  have o3 := new_below w3 (.cells #[.int .i64 x1, .int .i64 x2] 23)
                  have NA3 := Lib.hid (N3.next o3)
                  have NB3 := Lib.hid (M3.next o3)
                  have NS3 := Lib.hid (rbox_new w3 x1 x2 23)
                  clear NA NB b3 a0 a1 a2 a3 a4 hr hs o3
                  obtain ⟨a0, a1, a2, a3, a4⟩ := N3.A
                  obtain ⟨d0, d1, d2, d3, d4⟩ := M3
                  clear N3
                  go_wp2_with fail
                  with_reducible refine (g1 _).mono ?_
                  rintro e w4 ⟨rfl, b4⟩
                  have NA4 := Lib.hid (NA3.out.next b4)
                  have NB4 := Lib.hid (NB3.out.next b4)
                  have NS4 := Lib.hid (NS3.out.next b4)
                  clear NA3 NB3 NS3 b4 a0 a1 a2 a3 a4 d0 d1 d2 d3 d4
                  obtain ⟨a0, a1, a2, a3, a4⟩ := NA4.out.A
                  obtain ⟨d0, d1, d2, d3, d4⟩ := NB4.out
                  obtain ⟨s0, s1, s2, s3, s4⟩ := NS4.out
                  go_wp2_with fail
                  with_reducible refine (g2 _).mono ?_
                  rintro e w5 ⟨rfl, b5⟩
                  have NA5 := Lib.hid (NA4.out.next b5)
                  have NB5 := Lib.hid (NB4.out.next b5)
                  have NS5 := Lib.hid (NS4.out.next b5)
                  clear NA4 NB4 NS4 b5 a0 a1 a2 a3 a4 d0 d1 d2 d3 d4 s0 s1 s2 s3 s4
                  obtain ⟨a0, a1, a2, a3, a4⟩ := NA5.out.A
                  obtain ⟨d0, d1, d2, d3, d4⟩ := NB5.out
                  obtain ⟨s0, s1, s2, s3, s4⟩ := NS5.out
                  go_wp2_with fail
                  with_reducible refine (c2 _).mono ?_
                  rintro e w6 ⟨rfl, b6⟩
                  have NA6 := Lib.hid (NA5.out.next b6)
                  have NB6 := Lib.hid (NB5.out.next b6)
                  have NS6 := Lib.hid (NS5.out.next b6)
                  clear NA5 NB5 NS5 b6 a0 a1 a2 a3 a4 d0 d1 d2 d3 d4 s0 s1 s2 s3 s4
                  obtain ⟨a0, a1, a2, a3, a4⟩ := NA6.out.A
                  obtain ⟨d0, d1, d2, d3, d4⟩ := NB6.out
                  obtain ⟨s0, s1, s2, s3, s4⟩ := NS6.out
                  clear c1 g1 g2 c2 GB CC SI S1 S2
                  rcases hcs with z1 | ⟨z1, z2⟩
                  all_goals
                    have HI := Lib.hid NA6.out
                    clear NA6 NB6 NS6
                    go_wp2
                    go_roundw
                    case rel => exact ⟨k' + 1, by omega, by go_num, HI.out⟩
                    case measure => simp [intOf]; omega
              · have hB : ¬ smpB p q r s = true := fun h => h3 (smpB_parts h).2.2
                have hB' : smpB p q r s = false := by simpa using hB
                rw [hB'] at c1
                obtain ⟨x1, e1⟩ : ∃ x, smpN p q r s = x := ⟨_, rfl⟩
                obtain ⟨x2, e2⟩ : ∃ x, smpD p q r s = x := ⟨_, rfl⟩
                rw [e1, e2] at c1
                clear e1 e2 hB'
                obtain ⟨u0, f0⟩ : ∃ x, rcm p q r s = x := ⟨_, rfl⟩
                rw [f0] at c2 h3
                have t0 : decide (u0 ≤ 0) = false := by simpa using h3
                clear f0 hB h1 h2
                go_wp2_with fail
                with_reducible refine (c1 _).mono ?_
                rintro e w3 ⟨rfl, b3⟩
                have N3 := NA.out.next b3
                have M3 := NB.out.next b3
                have o3 := new_below w3 (.cells #[.int .i64 x1, .int .i64 x2] 23)
                have NA3 := Lib.hid (N3.next o3)
                have NB3 := Lib.hid (M3.next o3)
                have NS3 := Lib.hid (rbox_new w3 x1 x2 23)
                clear NA NB b3 a0 a1 a2 a3 a4 hr hs o3
                obtain ⟨a0, a1, a2, a3, a4⟩ := N3.A
                obtain ⟨d0, d1, d2, d3, d4⟩ := M3
                clear N3
                go_wp2_with fail
                with_reducible refine (g1 _).mono ?_
                rintro e w4 ⟨rfl, b4⟩
                have NA4 := Lib.hid (NA3.out.next b4)
                have NB4 := Lib.hid (NB3.out.next b4)
                have NS4 := Lib.hid (NS3.out.next b4)
                clear NA3 NB3 NS3 b4 a0 a1 a2 a3 a4 d0 d1 d2 d3 d4
                obtain ⟨a0, a1, a2, a3, a4⟩ := NA4.out.A
                obtain ⟨d0, d1, d2, d3, d4⟩ := NB4.out
                obtain ⟨s0, s1, s2, s3, s4⟩ := NS4.out
                go_wp2_with fail
                with_reducible refine (g2 _).mono ?_
                rintro e w5 ⟨rfl, b5⟩
                have NA5 := Lib.hid (NA4.out.next b5)
                have NB5 := Lib.hid (NB4.out.next b5)
                have NS5 := Lib.hid (NS4.out.next b5)
                clear NA4 NB4 NS4 b5 a0 a1 a2 a3 a4 d0 d1 d2 d3 d4 s0 s1 s2 s3 s4
                obtain ⟨a0, a1, a2, a3, a4⟩ := NA5.out.A
                obtain ⟨d0, d1, d2, d3, d4⟩ := NB5.out
                obtain ⟨s0, s1, s2, s3, s4⟩ := NS5.out
                go_wp2_with fail
                with_reducible refine (c2 _).mono ?_
                rintro e w6 ⟨rfl, b6⟩
                have NA6 := Lib.hid (NA5.out.next b6)
                have NB6 := Lib.hid (NB5.out.next b6)
                have NS6 := Lib.hid (NS5.out.next b6)
                clear NA5 NB5 NS5 b6 a0 a1 a2 a3 a4 d0 d1 d2 d3 d4 s0 s1 s2 s3 s4
                obtain ⟨a0, a1, a2, a3, a4⟩ := NA6.out.A
                obtain ⟨d0, d1, d2, d3, d4⟩ := NB6.out
                obtain ⟨s0, s1, s2, s3, s4⟩ := NS6.out
                clear c1 g1 g2 c2 GB CC SI S1 S2
                have HI := Lib.hid NA6.out
                clear NA6 NB6 NS6 a0 a1 a2 a3 a4 d0 d1 d2 d3 d4 s0 s1 s2 s3 s4
                go_wp2
                go_roundw
                case rel => exact ⟨k' + 1, by omega, by go_num, HI.out⟩
                case measure => simp [intOf]; omega
            · have hB : ¬ smpB p q r s = true := fun h => h2 (smpB_parts h).2.1
              have hB' : smpB p q r s = false := by simpa using hB
              rw [hB'] at c1
              obtain ⟨x1, e1⟩ : ∃ x, smpN p q r s = x := ⟨_, rfl⟩
              obtain ⟨x2, e2⟩ : ∃ x, smpD p q r s = x := ⟨_, rfl⟩
              rw [e1, e2] at c1
              clear e1 e2 hB'
              rw [show goodB r s = false by simpa using h2] at g2
              clear hB h1 h2
              go_wp2_with fail
              with_reducible refine (c1 _).mono ?_
              rintro e w3 ⟨rfl, b3⟩
              have N3 := NA.out.next b3
              have M3 := NB.out.next b3
              have o3 := new_below w3 (.cells #[.int .i64 x1, .int .i64 x2] 23)
              have NA3 := Lib.hid (N3.next o3)
              have NB3 := Lib.hid (M3.next o3)
              have NS3 := Lib.hid (rbox_new w3 x1 x2 23)
              clear NA NB b3 a0 a1 a2 a3 a4 hr hs o3
              obtain ⟨a0, a1, a2, a3, a4⟩ := N3.A
              obtain ⟨d0, d1, d2, d3, d4⟩ := M3
              clear N3
              go_wp2_with fail
              with_reducible refine (g1 _).mono ?_
              rintro e w4 ⟨rfl, b4⟩
              have NA4 := Lib.hid (NA3.out.next b4)
              have NB4 := Lib.hid (NB3.out.next b4)
              have NS4 := Lib.hid (NS3.out.next b4)
              clear NA3 NB3 NS3 b4 a0 a1 a2 a3 a4 d0 d1 d2 d3 d4
              obtain ⟨a0, a1, a2, a3, a4⟩ := NA4.out.A
              obtain ⟨d0, d1, d2, d3, d4⟩ := NB4.out
              obtain ⟨s0, s1, s2, s3, s4⟩ := NS4.out
              go_wp2_with fail
              with_reducible refine (g2 _).mono ?_
              rintro e w5 ⟨rfl, b5⟩
              have NA5 := Lib.hid (NA4.out.next b5)
              have NB5 := Lib.hid (NB4.out.next b5)
              have NS5 := Lib.hid (NS4.out.next b5)
              clear NA4 NB4 NS4 b5 a0 a1 a2 a3 a4 d0 d1 d2 d3 d4 s0 s1 s2 s3 s4
              obtain ⟨a0, a1, a2, a3, a4⟩ := NA5.out.A
              obtain ⟨d0, d1, d2, d3, d4⟩ := NB5.out
              obtain ⟨s0, s1, s2, s3, s4⟩ := NS5.out
              clear c1 g1 g2 c2 GB CC SI S1 S2
              have HI := Lib.hid NA5.out
              clear NA5 NB5 NS5 a0 a1 a2 a3 a4 d0 d1 d2 d3 d4 s0 s1 s2 s3 s4
              go_wp2
              go_roundw
              case rel => exact ⟨k' + 1, by omega, by go_num, HI.out⟩
              case measure => simp [intOf]; omega
          · have hB : ¬ smpB p q r s = true := fun h => h1 (smpB_parts h).1
            have hB' : smpB p q r s = false := by simpa using hB
            rw [hB'] at c1
            obtain ⟨x1, e1⟩ : ∃ x, smpN p q r s = x := ⟨_, rfl⟩
            obtain ⟨x2, e2⟩ : ∃ x, smpD p q r s = x := ⟨_, rfl⟩
            rw [e1, e2] at c1
            clear e1 e2 hB'
            have g1 := GA
            rw [show goodB p q = false by simpa using h1] at g1
            clear hB h1
            go_wp2_with fail
            with_reducible refine (c1 _).mono ?_
            rintro e w3 ⟨rfl, b3⟩
            have N3 := NA.out.next b3
            have M3 := NB.out.next b3
            have o3 := new_below w3 (.cells #[.int .i64 x1, .int .i64 x2] 23)
            have NA3 := Lib.hid (N3.next o3)
            have NB3 := Lib.hid (M3.next o3)
            have NS3 := Lib.hid (rbox_new w3 x1 x2 23)
            clear NA NB b3 a0 a1 a2 a3 a4 hr hs o3
            obtain ⟨a0, a1, a2, a3, a4⟩ := N3.A
            obtain ⟨d0, d1, d2, d3, d4⟩ := M3
            clear N3
            go_wp2_with fail
            with_reducible refine (g1 _).mono ?_
            rintro e w4 ⟨rfl, b4⟩
            have NA4 := Lib.hid (NA3.out.next b4)
            have NB4 := Lib.hid (NB3.out.next b4)
            have NS4 := Lib.hid (NS3.out.next b4)
            clear NA3 NB3 NS3 b4 a0 a1 a2 a3 a4 d0 d1 d2 d3 d4
            obtain ⟨a0, a1, a2, a3, a4⟩ := NA4.out.A
            obtain ⟨d0, d1, d2, d3, d4⟩ := NB4.out
            obtain ⟨s0, s1, s2, s3, s4⟩ := NS4.out
            clear c1 g1 g2 c2 GB CC SI S1 S2
            have HI := Lib.hid NA4.out
            clear NA4 NB4 NS4 a0 a1 a2 a3 a4 d0 d1 d2 d3 d4 s0 s1 s2 s3 s4
            go_wp2
            go_roundw
            case rel => exact ⟨k' + 1, by omega, by go_num, HI.out⟩
            case measure => simp [intOf]; omega
        · obtain rfl : k' = m2 := by omega
          have HO6 := Lib.hid hN.O
          clear hN HI SI GA GB CC S1 S2
          go_wp2
          go_roundw
          case rel => exact ⟨k + 1, by omega, by go_num, HO6.out⟩
          case measure => simp [intOf]; omega
    · obtain rfl : k = m1 := by omega
      have HO := Lib.hid hO
      have ok := hO.ok
      clear hO H1
      go_wp2_with fail
      with_reducible refine (wakes_any _ ok).mono ?_
      rintro e w3 ⟨rfl, b3⟩
      go_wp2
      go_ret
      exact ⟨rfl, on HO.out.B b3⟩

/-! ### the row -/
open Go.ChangeShapes Go.WideShapes Go.ChangeAt
theorem lifted (os : Os) (started : os.Started) (H : Type) (enc : TypeId × Value → H) :
    ReturnsInHanded {} Tryd.checked os 10 .any (fun w args => (Rows.ratioNearSpec.pre enc Tryd.prog Tryd.f10 [] false w args ∧ laidMetH Tryd.prog laidL w) ∧ sizedMet enc Tryd.prog Tryd.f10 (OpenSpec.ofChange Rows.ratioNearSpec) false w args)
      (Rows.ratioNearSpec.post enc Tryd.prog Tryd.f10 false true false false) := by
  refine returnsInHanded_of_change_and (C := Tryd.checked) (X := fun w _ => laidMetH Tryd.prog laidL w) (fun _ _ _ hh h => h.of_heap hh) own started (by kernel_rfl) Tryd.func10
    (ChangeSpec.witness_shaped (enc := enc) (C := Tryd.checked) (os := os) (X := fun w _ => laidMetH Tryd.prog laidL w) false (World.doorLaid Tryd.prog 400 os) #[.agg #[.int .i64 0, .int .i64 0], .agg #[.int .i64 0, .int .i64 0]] 8 rfl (World.shaped_of_RefB (by kernel_rfl) (by kernel_rfl)) (by kernel_rfl) (by kernel_rfl) (by kernel_rfl) (door_met os _)) ?_
  intro W base args ds gs before hval0 hW _ hsz0 hL _
  have hval : ∀ (j : Nat) t v, Tryd.f10.params[j]? = some t → args[j]? = some v → Value.okWide Tryd.prog W .any base t v := hval0
  have hW' := hW
  obtain ⟨p, q, hA0, hV, rfl, hfz, hnd⟩ := hW
  have hA : DataW.TrodAll enc Tryd.prog W 0 (fun _ => true) true Tryd.f10.params.toList args.toList ds p := hA0
  rw [Tryd.params10] at hA hval
  obtain ⟨v0, vs0, d0, ds0, p0, q0, hargs, rfl, rfl, h0, r0⟩ := trodAll_cons hA
  obtain ⟨v1, vs1, d1, ds1, p1, q1, rfl, rfl, rfl, h1, r1⟩ := trodAll_cons r0
  obtain ⟨rfl, rfl, rfl⟩ := trodAll_nil r1
  obtain rfl : args = #[v0, v1] := by cases args; simp_all
  obtain ⟨rfl, rfl⟩ := trodVars_none hV
  have k0 := h0
  have lt0 : ∀ x ∈ p0, x.block < W.heap.size := by obtain ⟨m, hm⟩ := k0; exact DataW.trod_lt m _ _ _ hm
  obtain ⟨a0, b0, wa0, wb0, rfl⟩ := open_pair (hval 0 31 v0 rfl rfl) h0
  have k1 := h1
  have lt1 : ∀ x ∈ p1, x.block < W.heap.size := by obtain ⟨m, hm⟩ := k1; exact DataW.trod_lt m _ _ _ hm
  obtain ⟨a1, b1, wa1, wb1, rfl⟩ := open_pair (hval 1 31 v1 rfl rfl) h1
  clear hA0 hval0
  refine (walk a0 b0 a1 b1 wa0 wb0 wa1 wb1 W (libOk_of_laid hL)).mono fun e W' ⟨he, bel⟩ => ?_
  subst he
  exact ⟨_, rfl, _, _, _, [], _, [], hW', trodAll_mk1 (shut_bool Tryd.underlying4 _), (trodAll_cons_mk (Below.trod laidOut (by kernel_rfl) (of_decide_eq_true (by kernel_rfl)) k0 bel lt0) (trodAll_cons_mk (Below.trod laidOut (by kernel_rfl) (of_decide_eq_true (by kernel_rfl)) k1 bel lt1) trodAll_mk0)), rfl, bel.frame _, fun h => by cases h⟩

theorem over : Rows.ratioNearRow.holds Tryd.pinned (OpenSpec.ofChange Rows.ratioNearSpec) :=
  OpenClaim.holds_of_wide 10 Tryd.f10 rfl rfl rfl rfl rfl rfl rfl ⟨rfl, rfl, rfl, rfl, rfl⟩ rfl rfl rfl rfl rfl (by kernel_rfl) Tryd.func10 (by kernel_rfl)
    (of_decide_eq_true (by kernel_rfl)) (by unfold Func.isWrapper; first | (rw [if_pos (by decide +kernel)]; kernel_rfl) | (rw [if_neg (by decide +kernel)]; exact ⟨rfl, rfl⟩))
    (fun os started H enc _ => lifted os started H enc)

theorem card : Rows.RatioNearCardSaid :=
  Claim7.holds_tied_plain_at .later [] [.data, .data, .data, .sentinel, .sentinel] true _ true
    over (fun _ h => by cases h) (by kernel_rfl) (fun _ h => by cases h) ratioNear_row_tie rfl ⟨rfl, rfl⟩ (by kernel_rfl) rfl
    (fun f fn hf hfn => by
      obtain rfl : f = 10 := Option.some.inj ((show Tryd.prog.funcNamed Rows.ratioNearRow.func = some 10 by kernel_rfl).symm.trans hf) |>.symm
      obtain rfl : fn = Tryd.f10 := (Option.some.inj (Tryd.func10.symm.trans hfn)).symm
      exact ⟨by kernel_rfl, fun j t ht => by
        rw [Tryd.params10] at ht
        have hm : t ∈ [31, 31] := by simpa using Array.mem_of_getElem? ht
        have hall : ([31, 31].all fun u => !Tryd.prog.wantsStandIn u) = true := by kernel_rfl
        exact (show Tryd.prog.wantsStandIn t = false by simpa using List.all_eq_true.1 hall t hm)⟩)
    (by kernel_rfl)

end Go.Proofs.YtjaabjehegcnaaaDoor.ratioNear
namespace Go.Proofs.YtjaabjehegcnaaaDoor
theorem ratioNear_holds : Rows.RatioNearCardSaid := ratioNear.card
#print axioms ratioNear_holds
end Go.Proofs.YtjaabjehegcnaaaDoor
