/-
  What math/bits' LeadingZeros64 and Div64 do.
-/
import Derived.Test.YtbkfmkbjfifgjaaSumWalks
import Derived.Test.YtbkfmkbjfifgjaaShelfLz
import Derived.Test.YtbkfmkbjfifgjaaDivMath
import Derived.Lib.ItoaNum
namespace Go.Proofs.Ytbkfmkbjfifgjaa
open Go.RowKit

theorem lz_any (y : Nat) (h0 : y ≠ 0) (h1 : y < 18446744073709551616) : ∃ s : Nat, s ≤ 63 ∧ 9223372036854775808 ≤ y * 2 ^ s ∧ y * 2 ^ s < 18446744073709551616 ∧
    ∀ w : World, Calls Try.prog 54 #[.int .u64 y] w fun e w' => e = .returned (.int .i64 s) ∧ w = w' := by
  obtain ⟨b1, b2, b3⟩ := Lib.bitLenAux_bounds 64 y h1 h0
  have hle : Lib.bitLenAux 64 y ≤ 64 := Lib.bitLenAux_le 64 y 64 h1
  obtain ⟨n, hn⟩ : ∃ n, Lib.bitLenAux 64 y = n := ⟨_, rfl⟩
  rw [hn] at b1 b2 b3 hle
  refine ⟨64 - n, by omega, ?_, ?_, fun w => ?_⟩
  · calc 9223372036854775808 = 2 ^ (n - 1) * 2 ^ (64 - n) := by rw [← Nat.pow_add, show n - 1 + (64 - n) = 63 by omega]
      _ ≤ y * 2 ^ (64 - n) := Nat.mul_le_mul_right _ b2
  · calc y * 2 ^ (64 - n) < 2 ^ n * 2 ^ (64 - n) := Nat.mul_lt_mul_of_pos_right b3 (Nat.two_pow_pos _)
      _ = 18446744073709551616 := by rw [← Nat.pow_add, show n + (64 - n) = 64 by omega]
  · refine (lz_lib (y : Int) w (by omega) (by omega)).mono ?_
    rintro e w' ⟨rfl, rfl⟩
    refine ⟨?_, rfl⟩
    have : Lib.bitLen (y : Int).toNat = n := by rw [Int.toNat_natCast]; exact hn
    rw [this, show (64 : Int) - (n : Int) = ((64 - n : Nat) : Int) by omega]

theorem ret_quo {k : IntKind} {a b r : Int} (h : a = b) : Ending.returned (.tuple #[.int k a, .int k r]) = .returned (.tuple #[.int k b, .int k r]) := by rw [h]

/-- What Div64 reckons first. -/
structure Norm (hi lo y s Y Y1 Y0 H L U T T1 T0 : Nat) : Prop where
  mk ::
  a1 : IntKind.u64.wrap ((y : Int) * 2 ^ s) = (Y : Int)
  a2 : (Y : Int) / 4294967296 = (Y1 : Int)
  a3 : bits .and .u64 (Y : Int) 4294967295 = (Y0 : Int)
  a4 : IntKind.u64.wrap ((hi : Int) * 2 ^ s) = (H : Int)
  a5 : (lo : Int) / 2 ^ (64 - s) = (L : Int)
  a6 : bits .or .u64 (H : Int) (L : Int) = (U : Int)
  a7 : IntKind.u64.wrap ((lo : Int) * 2 ^ s) = (T : Int)
  a8 : (T : Int) / 4294967296 = (T1 : Int)
  a9 : bits .and .u64 (T : Int) 4294967295 = (T0 : Int)
  half : Half Y1 Y0 U T1
  t0 : T0 < 4294967296
  eY : Y = Y1 * 4294967296 + Y0
  quo : (hi * 18446744073709551616 + lo) / y = halfQ Y1 Y0 U T1 * 4294967296 + halfQ Y1 Y0 (halfR Y1 Y0 U T1) T0

theorem norm_of {hi lo y s : Nat} (hs : s ≤ 63) (hy1 : 9223372036854775808 ≤ y * 2 ^ s) (hy2 : y * 2 ^ s < 18446744073709551616) (h1 : lo < 18446744073709551616) (h3 : hi < y) :
    ∃ Y Y1 Y0 H L U T T1 T0, Norm hi lo y s Y Y1 Y0 H L U T T1 T0 := by
  have hp : 0 < 2 ^ s := Nat.two_pow_pos s
  have pw : ((2 : Int) ^ s) = ((2 ^ s : Nat) : Int) := (Int.natCast_pow 2 s).symm
  have pw2 : ((2 : Int) ^ (64 - s)) = ((2 ^ (64 - s) : Nat) : Int) := (Int.natCast_pow 2 _).symm
  have hH : hi * 2 ^ s + 2 ^ s ≤ y * 2 ^ s := by rw [← Nat.succ_mul]; exact Nat.mul_le_mul_right _ h3
  have hL : lo / 2 ^ (64 - s) < 2 ^ s := by
    rw [Nat.div_lt_iff_lt_mul (Nat.two_pow_pos _), ← Nat.pow_add, show s + (64 - s) = 64 by omega]; exact h1
  have hT : lo * 2 ^ s % 18446744073709551616 < 18446744073709551616 := Nat.mod_lt _ (by omega)
  have hor := or_halves hi _ s hL
  have hsh := shifted hi lo y s hs
  obtain ⟨Y, eY⟩ : ∃ Y, y * 2 ^ s = Y := ⟨_, rfl⟩
  obtain ⟨H, eH⟩ : ∃ H, hi * 2 ^ s = H := ⟨_, rfl⟩
  obtain ⟨L, eL⟩ : ∃ L, lo / 2 ^ (64 - s) = L := ⟨_, rfl⟩
  obtain ⟨T, eT⟩ : ∃ T, lo * 2 ^ s % 18446744073709551616 = T := ⟨_, rfl⟩
  rw [eY] at hy1 hy2 hH hsh
  rw [eH] at hH hor hsh
  rw [eL] at hL hor hsh
  rw [eT] at hT hsh
  have hhalf : Half (Y / 4294967296) (Y % 4294967296) (H + L) (T / 4294967296) := ⟨by omega, by omega, by omega, by omega, by omega⟩
  refine ⟨Y, Y / 4294967296, Y % 4294967296, H, L, H + L, T, T / 4294967296, T % 4294967296, ?_, ?_, ?_, ?_, ?_, ?_, ?_, ?_, ?_, hhalf, by omega, by omega, ?_⟩
  · rw [pw, ← Int.natCast_mul, eY, IntKind.wrap_u64]; omega
  · omega
  · exact maskN Y hy2
  · rw [pw, ← Int.natCast_mul, eH, IntKind.wrap_u64]; omega
  · rw [pw2, ← Int.natCast_ediv, eL]
  · rw [bits_or_u64_nat H L (by omega) (by omega), hor]
  · rw [pw, ← Int.natCast_mul, IntKind.wrap_u64, ← eT]; omega
  · omega
  · exact maskN T hT
  · rw [hsh, ← two_halves hhalf]
    congr 1
    · omega
    · omega

set_option maxRecDepth 100000 in
set_option maxHeartbeats 4000000 in
theorem div_any (hi lo y : Nat) (h1 : lo < 18446744073709551616) (h2 : y < 18446744073709551616) (h3 : hi < y) (h4 : hi ≠ 0) (w : World) :
    Calls Try.prog 53 #[.int .u64 hi, .int .u64 lo, .int .u64 y] w fun e w' => (∃ r : Int, e = .returned (.tuple #[.int .u64 (((hi * 18446744073709551616 + lo) / y : Nat) : Int), .int .u64 r])) ∧ w = w' := by
  obtain ⟨s, hs, hy1, hy2, hc⟩ := lz_any y (by omega) h2
  obtain ⟨Y, Y1, Y0, H, L, U, T, T1, T0, N⟩ := norm_of hs hy1 hy2 h1 h3
  rw [N.quo]
  obtain ⟨a1, a2, a3, a4, a5, a6, a7, a8, a9, hf, ht0, eY, _⟩ := N
  have HC := Lib.hid hc
  have HF := Lib.hid hf
  have EY := Lib.hid eY
  obtain ⟨f1, f2, f3, f4, f5⟩ := hf
  clear hc hy1 hy2 eY
  have e1 : ((y : Int) == 0) = false := by simp; omega
  have e2 : ((hi : Int) == 0) = false := by simp; omega
  obtain ⟨g1, g2, g3, g4⟩ := half_start HF.out
  obtain ⟨q, hq⟩ : ∃ q, U / Y1 = q := ⟨_, rfl⟩
  obtain ⟨r, hr⟩ : ∃ r, U % Y1 = r := ⟨_, rfl⟩
  rw [hq] at g1 g2 g4
  rw [hr] at g3 g4
  have G := Lib.hid (Guess.mk g4 g1 g2)
  obtain ⟨M, hM⟩ : ∃ M, q * Y1 = M := ⟨_, rfl⟩
  rw [hM] at g4
  have b1 : (U : Int) / (Y1 : Int) = (q : Int) := by rw [← Int.natCast_ediv, hq]
  have b2 : IntKind.u64.wrap ((q : Int) * (Y1 : Int)) = (M : Int) := by rw [← Int.natCast_mul, hM, IntKind.wrap_u64]; omega
  have b3 : (U : Int) - (M : Int) = (r : Int) := by omega
  have b4 : 1 ≤ Y1 := by omega
  have b5 : M ≤ U := by omega
  clear hq hr hM g1 g4
  have G1 := Lib.hid G.out
  obtain ⟨Q1, hQ1⟩ : ∃ Q, halfQ Y1 Y0 U T1 = Q := ⟨_, rfl⟩
  obtain ⟨R1, hR1⟩ : ∃ R, halfR Y1 Y0 U T1 = R := ⟨_, rfl⟩
  have c0 : Q1 < 4294967296 := by rw [← hQ1]; exact halfQ_lt HF.out
  have HF2 : Hid (Half Y1 Y0 R1 T0) := by rw [← hR1]; exact half_next HF.out ht0
  have hRY : R1 < Y := by have := halfR_lt HF.out; rw [hR1, ← EY.out] at this; exact this
  have hRe := halfR_eq Y1 Y0 U T1
  rw [hQ1, hR1, ← EY.out] at hRe
  obtain ⟨g5, g6, g7, g8⟩ := half_start HF2.out
  obtain ⟨q2, hq2⟩ : ∃ q, R1 / Y1 = q := ⟨_, rfl⟩
  obtain ⟨r2, hr2⟩ : ∃ r, R1 % Y1 = r := ⟨_, rfl⟩
  rw [hq2] at g5 g6 g8
  rw [hr2] at g7 g8
  have G2 := Lib.hid (Guess.mk g8 g5 g6)
  obtain ⟨M2, hM2⟩ : ∃ M, q2 * Y1 = M := ⟨_, rfl⟩
  rw [hM2] at g8
  have hYb : Y < 18446744073709551616 := by have := EY.out; omega
  obtain ⟨A, hA⟩ : ∃ A, U * 4294967296 % 18446744073709551616 = A := ⟨_, rfl⟩
  obtain ⟨C, hC⟩ : ∃ C, Q1 * Y % 18446744073709551616 = C := ⟨_, rfl⟩
  have c1 : IntKind.u64.wrap ((U : Int) * 4294967296) = (A : Int) := by rw [IntKind.wrap_u64, ← hA]; omega
  have c2 : A ≤ 18446744069414584320 := by omega
  have c3 : IntKind.u64.wrap ((Q1 : Int) * (Y : Int)) = (C : Int) := by rw [IntKind.wrap_u64, ← Int.natCast_mul, ← hC]; omega
  have c4 : IntKind.u64.wrap ((A : Int) + (T1 : Int) - (C : Int)) = (R1 : Int) := by
    rw [IntKind.wrap_u64]
    obtain ⟨P, hP⟩ : ∃ P, Q1 * Y = P := ⟨_, rfl⟩
    rw [hP] at hRe hC
    omega
  have c5 : (R1 : Int) / (Y1 : Int) = (q2 : Int) := by rw [← Int.natCast_ediv, hq2]
  have c6 : IntKind.u64.wrap ((q2 : Int) * (Y1 : Int)) = (M2 : Int) := by rw [← Int.natCast_mul, hM2, IntKind.wrap_u64]; omega
  have c7 : (R1 : Int) - (M2 : Int) = (r2 : Int) := by omega
  have c8 : M2 ≤ R1 := by omega
  obtain ⟨Q0, hQ0⟩ : ∃ Q, halfQ Y1 Y0 R1 T0 = Q := ⟨_, rfl⟩
  have c9 : Q0 < 4294967296 := by rw [← hQ0]; exact halfQ_lt HF2.out
  have HE : Hid ((Q1 : Int) * 4294967296 + (Q0 : Int) = ((halfQ Y1 Y0 U T1 * 4294967296 + halfQ Y1 Y0 (halfR Y1 Y0 U T1) T0 : Nat) : Int)) := by show _ = _; rw [hQ1, hR1, hQ0]; omega
  have HQ0 := Lib.hid hQ0
  clear hQ0
  have HQ1 := Lib.hid hQ1
  have HR1 := Lib.hid hR1
  clear hQ1 hR1 hRe hq2 hr2 hM2 g5 g8 hA hC G
  go_enter Try.func53, Try.ntmps53
  go_wp2_with fail
  with_reducible refine (HC.out _).mono ?_
  rintro e w1 ⟨rfl, rfl⟩
  go_wp2
  go_loop [15, 16] (fun qs rs => ∃ q r : Nat, qs = .int .u64 q ∧ rs = .int .u64 r ∧ Hid (Guess Y1 Y0 U T1 q r) ∧ q ≤ 4294967297 ∧ r < 4294967296) (fun qs _ => (intOf qs).toNat)
  case atStart => exact ⟨q, r, rfl, rfl, G1.out, g2, g3⟩
  case round =>
    clear b1 b2 b3 b5 a1 a2 a3 a4 a5 a6 a7 a8 a9 G1
    obtain ⟨q, r, rfl, rfl, hG, hq, hr⟩ := hrel
    by_cases hqb : 4294967296 ≤ q
    · have ho := guess_over HF.out hG.out (Or.inl hqb)
      obtain ⟨hN, hN2⟩ := guess_next hG.out ho
      have HN := Lib.hid hN
      have hq0 : 1 ≤ q := by omega
      have hqi : (4294967296 : Int) ≤ (q : Int) := by omega
      by_cases hbr : 4294967296 ≤ r + Y1
      · have he := guess_break HF.out hN hN2 hbr
        rw [HQ1.out] at he
        have hqe : (q : Int) - 1 = (Q1 : Int) := by omega
        have hbi : (4294967296 : Int) ≤ (r : Int) + (Y1 : Int) := by omega
        clear ho hN he hN2 hqb hbr
        go_wp2
        go_loop [18, 16] (fun qs rs => ∃ q r : Nat, qs = .int .u64 q ∧ rs = .int .u64 r ∧ Hid (Guess Y1 Y0 R1 T0 q r) ∧ q ≤ 4294967297 ∧ r < 4294967296) (fun qs _ => (intOf qs).toNat)
        case atStart => exact ⟨q2, r2, rfl, rfl, G2.out, g6, g7⟩
        case round =>
          clear hqe hbi hqi hG HN hq hr hq0
          obtain ⟨q, r, rfl, rfl, hG, hq, hr⟩ := hrel
          by_cases hqb : 4294967296 ≤ q
          · have ho := guess_over HF2.out hG.out (Or.inl hqb)
            obtain ⟨hN, hN2⟩ := guess_next hG.out ho
            have HN := Lib.hid hN
            have hq0 : 1 ≤ q := by omega
            have hqi : (4294967296 : Int) ≤ (q : Int) := by omega
            by_cases hbr : 4294967296 ≤ r + Y1
            · have he := guess_break HF2.out hN hN2 hbr
              rw [HQ0.out] at he
              have hqe : (q : Int) - 1 = (Q0 : Int) := by omega
              have hbi : (4294967296 : Int) ≤ (r : Int) + (Y1 : Int) := by omega
              clear ho hN he hN2 hqb hbr
              go_wp2
              go_ret2
              exact ⟨⟨_, ret_quo HE.out⟩, rfl⟩
            · have HX := Lib.hid (And.intro hN2 hbr)
              have hbi : ¬ (4294967296 : Int) ≤ (r : Int) + (Y1 : Int) := by omega
              clear ho hN hN2 hqb hbr
              go_wp2
              go_round
              case rel => exact ⟨q - 1, r + Y1, by go_num, by go_num, HN, by have := HX.out; omega, by have := HX.out; omega⟩
              case measure => simp [intOf]; omega
          · have hqi : ¬ (4294967296 : Int) ≤ (q : Int) := by omega
            have hPb : q * Y0 ≤ 4294967295 * 4294967295 := Nat.mul_le_mul (by omega) (by omega)
            obtain ⟨P, hP⟩ : ∃ P, q * Y0 = P := ⟨_, rfl⟩
            have hw : IntKind.u64.wrap ((q : Int) * (Y0 : Int)) = (P : Int) := by rw [← Int.natCast_mul, hP, IntKind.wrap_u64]; omega
            by_cases hgt : 4294967296 * r + T0 < q * Y0
            · have ho := guess_over HF2.out hG.out (Or.inr hgt)
              obtain ⟨hN, hN2⟩ := guess_next hG.out ho
              have HN := Lib.hid hN
              have hq0 : 1 ≤ q := by omega
              have hgi : (4294967296 : Int) * (r : Int) + (T0 : Int) < (P : Int) := by omega
              by_cases hbr : 4294967296 ≤ r + Y1
              · have he := guess_break HF2.out hN hN2 hbr
                rw [HQ0.out] at he
                have hqe : (q : Int) - 1 = (Q0 : Int) := by omega
                have hbi : (4294967296 : Int) ≤ (r : Int) + (Y1 : Int) := by omega
                clear ho hN he hN2 hqb hbr hPb hP hgt
                go_wp2
                go_ret2
                exact ⟨⟨_, ret_quo HE.out⟩, rfl⟩
              · have HX := Lib.hid (And.intro hN2 hbr)
                have hbi : ¬ (4294967296 : Int) ≤ (r : Int) + (Y1 : Int) := by omega
                clear ho hN hN2 hqb hbr hPb hP hgt
                go_wp2
                go_round
                case rel => exact ⟨q - 1, r + Y1, by go_num, by go_num, HN, by have := HX.out; omega, by have := HX.out; omega⟩
                case measure => simp [intOf]; omega
            · have he := guess_right HF2.out hG.out (by omega)
              rw [HQ0.out] at he
              have hgi : ¬ (4294967296 : Int) * (r : Int) + (T0 : Int) < (P : Int) := by omega
              have hqe : (q : Int) = (Q0 : Int) := by omega
              clear hqb hPb hP hgt
              subst he
              clear hqe
              go_wp2
              go_ret2
              exact ⟨⟨_, ret_quo HE.out⟩, rfl⟩
      · have HX := Lib.hid (And.intro hN2 hbr)
        have hbi : ¬ (4294967296 : Int) ≤ (r : Int) + (Y1 : Int) := by omega
        clear ho hN hN2 hqb hbr
        go_wp2
        go_round
        case rel => exact ⟨q - 1, r + Y1, by go_num, by go_num, HN, by have := HX.out; omega, by have := HX.out; omega⟩
        case measure => simp [intOf]; omega
    · have hqi : ¬ (4294967296 : Int) ≤ (q : Int) := by omega
      have hPb : q * Y0 ≤ 4294967295 * 4294967295 := Nat.mul_le_mul (by omega) (by omega)
      obtain ⟨P, hP⟩ : ∃ P, q * Y0 = P := ⟨_, rfl⟩
      have hw : IntKind.u64.wrap ((q : Int) * (Y0 : Int)) = (P : Int) := by rw [← Int.natCast_mul, hP, IntKind.wrap_u64]; omega
      by_cases hgt : 4294967296 * r + T1 < q * Y0
      · have ho := guess_over HF.out hG.out (Or.inr hgt)
        obtain ⟨hN, hN2⟩ := guess_next hG.out ho
        have HN := Lib.hid hN
        have hq0 : 1 ≤ q := by omega
        have hgi : (4294967296 : Int) * (r : Int) + (T1 : Int) < (P : Int) := by omega
        by_cases hbr : 4294967296 ≤ r + Y1
        · have he := guess_break HF.out hN hN2 hbr
          rw [HQ1.out] at he
          have hqe : (q : Int) - 1 = (Q1 : Int) := by omega
          have hbi : (4294967296 : Int) ≤ (r : Int) + (Y1 : Int) := by omega
          clear ho hN he hN2 hqb hbr hPb hP hgt
          go_wp2
          go_loop [18, 16] (fun qs rs => ∃ q r : Nat, qs = .int .u64 q ∧ rs = .int .u64 r ∧ Hid (Guess Y1 Y0 R1 T0 q r) ∧ q ≤ 4294967297 ∧ r < 4294967296) (fun qs _ => (intOf qs).toNat)
          case atStart => exact ⟨q2, r2, rfl, rfl, G2.out, g6, g7⟩
          case round =>
            clear hqe hbi hqi hG HN hq hr hq0 hgi hw
            obtain ⟨q, r, rfl, rfl, hG, hq, hr⟩ := hrel
            by_cases hqb : 4294967296 ≤ q
            · have ho := guess_over HF2.out hG.out (Or.inl hqb)
              obtain ⟨hN, hN2⟩ := guess_next hG.out ho
              have HN := Lib.hid hN
              have hq0 : 1 ≤ q := by omega
              have hqi : (4294967296 : Int) ≤ (q : Int) := by omega
              by_cases hbr : 4294967296 ≤ r + Y1
              · have he := guess_break HF2.out hN hN2 hbr
                rw [HQ0.out] at he
                have hqe : (q : Int) - 1 = (Q0 : Int) := by omega
                have hbi : (4294967296 : Int) ≤ (r : Int) + (Y1 : Int) := by omega
                clear ho hN he hN2 hqb hbr
                go_wp2
                go_ret2
                exact ⟨⟨_, ret_quo HE.out⟩, rfl⟩
              · have HX := Lib.hid (And.intro hN2 hbr)
                have hbi : ¬ (4294967296 : Int) ≤ (r : Int) + (Y1 : Int) := by omega
                clear ho hN hN2 hqb hbr
                go_wp2
                go_round
                case rel => exact ⟨q - 1, r + Y1, by go_num, by go_num, HN, by have := HX.out; omega, by have := HX.out; omega⟩
                case measure => simp [intOf]; omega
            · have hqi : ¬ (4294967296 : Int) ≤ (q : Int) := by omega
              have hPb : q * Y0 ≤ 4294967295 * 4294967295 := Nat.mul_le_mul (by omega) (by omega)
              obtain ⟨P, hP⟩ : ∃ P, q * Y0 = P := ⟨_, rfl⟩
              have hw : IntKind.u64.wrap ((q : Int) * (Y0 : Int)) = (P : Int) := by rw [← Int.natCast_mul, hP, IntKind.wrap_u64]; omega
              by_cases hgt : 4294967296 * r + T0 < q * Y0
              · have ho := guess_over HF2.out hG.out (Or.inr hgt)
                obtain ⟨hN, hN2⟩ := guess_next hG.out ho
                have HN := Lib.hid hN
                have hq0 : 1 ≤ q := by omega
                have hgi : (4294967296 : Int) * (r : Int) + (T0 : Int) < (P : Int) := by omega
                by_cases hbr : 4294967296 ≤ r + Y1
                · have he := guess_break HF2.out hN hN2 hbr
                  rw [HQ0.out] at he
                  have hqe : (q : Int) - 1 = (Q0 : Int) := by omega
                  have hbi : (4294967296 : Int) ≤ (r : Int) + (Y1 : Int) := by omega
                  clear ho hN he hN2 hqb hbr hPb hP hgt
                  go_wp2
                  go_ret2
                  exact ⟨⟨_, ret_quo HE.out⟩, rfl⟩
                · have HX := Lib.hid (And.intro hN2 hbr)
                  have hbi : ¬ (4294967296 : Int) ≤ (r : Int) + (Y1 : Int) := by omega
                  clear ho hN hN2 hqb hbr hPb hP hgt
                  go_wp2
                  go_round
                  case rel => exact ⟨q - 1, r + Y1, by go_num, by go_num, HN, by have := HX.out; omega, by have := HX.out; omega⟩
                  case measure => simp [intOf]; omega
              · have he := guess_right HF2.out hG.out (by omega)
                rw [HQ0.out] at he
                have hgi : ¬ (4294967296 : Int) * (r : Int) + (T0 : Int) < (P : Int) := by omega
                have hqe : (q : Int) = (Q0 : Int) := by omega
                clear hqb hPb hP hgt
                subst he
                clear hqe
                go_wp2
                go_ret2
                exact ⟨⟨_, ret_quo HE.out⟩, rfl⟩
        · have HX := Lib.hid (And.intro hN2 hbr)
          have hbi : ¬ (4294967296 : Int) ≤ (r : Int) + (Y1 : Int) := by omega
          clear ho hN hN2 hqb hbr hPb hP hgt
          go_wp2
          go_round
          case rel => exact ⟨q - 1, r + Y1, by go_num, by go_num, HN, by have := HX.out; omega, by have := HX.out; omega⟩
          case measure => simp [intOf]; omega
      · have he := guess_right HF.out hG.out (by omega)
        rw [HQ1.out] at he
        have hgi : ¬ (4294967296 : Int) * (r : Int) + (T1 : Int) < (P : Int) := by omega
        have hqe : (q : Int) = (Q1 : Int) := by omega
        clear hqb hPb hP hgt
        subst he
        clear hqe
        go_wp2
        go_loop [18, 16] (fun qs rs => ∃ q r : Nat, qs = .int .u64 q ∧ rs = .int .u64 r ∧ Hid (Guess Y1 Y0 R1 T0 q r) ∧ q ≤ 4294967297 ∧ r < 4294967296) (fun qs _ => (intOf qs).toNat)
        case atStart => exact ⟨q2, r2, rfl, rfl, G2.out, g6, g7⟩
        case round =>
          clear hgi hw hqi hG hq hr
          obtain ⟨q, r, rfl, rfl, hG, hq, hr⟩ := hrel
          by_cases hqb : 4294967296 ≤ q
          · have ho := guess_over HF2.out hG.out (Or.inl hqb)
            obtain ⟨hN, hN2⟩ := guess_next hG.out ho
            have HN := Lib.hid hN
            have hq0 : 1 ≤ q := by omega
            have hqi : (4294967296 : Int) ≤ (q : Int) := by omega
            by_cases hbr : 4294967296 ≤ r + Y1
            · have he := guess_break HF2.out hN hN2 hbr
              rw [HQ0.out] at he
              have hqe : (q : Int) - 1 = (Q0 : Int) := by omega
              have hbi : (4294967296 : Int) ≤ (r : Int) + (Y1 : Int) := by omega
              clear ho hN he hN2 hqb hbr
              go_wp2
              go_ret2
              exact ⟨⟨_, ret_quo HE.out⟩, rfl⟩
            · have HX := Lib.hid (And.intro hN2 hbr)
              have hbi : ¬ (4294967296 : Int) ≤ (r : Int) + (Y1 : Int) := by omega
              clear ho hN hN2 hqb hbr
              go_wp2
              go_round
              case rel => exact ⟨q - 1, r + Y1, by go_num, by go_num, HN, by have := HX.out; omega, by have := HX.out; omega⟩
              case measure => simp [intOf]; omega
          · have hqi : ¬ (4294967296 : Int) ≤ (q : Int) := by omega
            have hPb : q * Y0 ≤ 4294967295 * 4294967295 := Nat.mul_le_mul (by omega) (by omega)
            obtain ⟨P, hP⟩ : ∃ P, q * Y0 = P := ⟨_, rfl⟩
            have hw : IntKind.u64.wrap ((q : Int) * (Y0 : Int)) = (P : Int) := by rw [← Int.natCast_mul, hP, IntKind.wrap_u64]; omega
            by_cases hgt : 4294967296 * r + T0 < q * Y0
            · have ho := guess_over HF2.out hG.out (Or.inr hgt)
              obtain ⟨hN, hN2⟩ := guess_next hG.out ho
              have HN := Lib.hid hN
              have hq0 : 1 ≤ q := by omega
              have hgi : (4294967296 : Int) * (r : Int) + (T0 : Int) < (P : Int) := by omega
              by_cases hbr : 4294967296 ≤ r + Y1
              · have he := guess_break HF2.out hN hN2 hbr
                rw [HQ0.out] at he
                have hqe : (q : Int) - 1 = (Q0 : Int) := by omega
                have hbi : (4294967296 : Int) ≤ (r : Int) + (Y1 : Int) := by omega
                clear ho hN he hN2 hqb hbr hPb hP hgt
                go_wp2
                go_ret2
                exact ⟨⟨_, ret_quo HE.out⟩, rfl⟩
              · have HX := Lib.hid (And.intro hN2 hbr)
                have hbi : ¬ (4294967296 : Int) ≤ (r : Int) + (Y1 : Int) := by omega
                clear ho hN hN2 hqb hbr hPb hP hgt
                go_wp2
                go_round
                case rel => exact ⟨q - 1, r + Y1, by go_num, by go_num, HN, by have := HX.out; omega, by have := HX.out; omega⟩
                case measure => simp [intOf]; omega
            · have he := guess_right HF2.out hG.out (by omega)
              rw [HQ0.out] at he
              have hgi : ¬ (4294967296 : Int) * (r : Int) + (T0 : Int) < (P : Int) := by omega
              have hqe : (q : Int) = (Q0 : Int) := by omega
              clear hqb hPb hP hgt
              subst he
              clear hqe
              go_wp2
              go_ret2
              exact ⟨⟨_, ret_quo HE.out⟩, rfl⟩

end Go.Proofs.Ytbkfmkbjfifgjaa
