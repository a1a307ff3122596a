/-
  What math/bits' Div64 and the quotients of wide numbers do: quotient, floor, FloorSum.
-/
import Derived.Test.YtbkfmkbjfifgjaaDivWalks
namespace Go.Proofs.Ytbkfmkbjfifgjaa
open Go.RowKit

set_option maxRecDepth 100000 in
theorem div_zero (lo y : Nat) (h1 : lo < 18446744073709551616) (h2 : y < 18446744073709551616) (h3 : 0 < y) (w : World) :
    Calls Try.prog 53 #[.int .u64 0, .int .u64 lo, .int .u64 y] w fun e w' => (∃ r : Int, e = .returned (.tuple #[.int .u64 ((lo / y : Nat) : Int), .int .u64 r])) ∧ Below w.heap.size w w' := by
  have e1 : ((y : Int) == 0) = false := by simp; omega
  have e3 : ¬ (y : Int) = 0 := by omega
  have hq : lo / y ≤ lo := Nat.div_le_self _ _
  obtain ⟨q, hqe⟩ : ∃ q, lo / y = q := ⟨_, rfl⟩
  have b1 : (lo : Int) / (y : Int) = (q : Int) := by rw [← Int.natCast_ediv, hqe]
  have b2 : (lo : Int).tdiv (y : Int) = (q : Int) := by rw [Int.tdiv_eq_ediv_of_nonneg (by omega), b1]
  have b3 : IntKind.u64.wrap (q : Int) = (q : Int) := by rw [IntKind.wrap_u64]; omega
  rw [hqe]
  clear hqe hq
  go_enter Try.func53, Try.ntmps53
  go_wp2
  go_quiet (fail)
  go_wp2
  go_ret2
  exact ⟨⟨_, rfl⟩, below_drewN (Below.refl _ _) _⟩

theorem div_all (hi lo y : Nat) (h1 : lo < 18446744073709551616) (h2 : y < 18446744073709551616) (h3 : hi < y) (w : World) :
    Calls Try.prog 53 #[.int .u64 hi, .int .u64 lo, .int .u64 y] w fun e w' => (∃ r : Int, e = .returned (.tuple #[.int .u64 (((hi * 18446744073709551616 + lo) / y : Nat) : Int), .int .u64 r])) ∧ Below w.heap.size w w' := by
  by_cases h0 : hi = 0
  · subst h0
    have h := div_zero lo y h1 h2 h3 w
    rw [show 0 * 18446744073709551616 + lo = lo by omega]
    exact h
  · refine (div_any hi lo y h1 h2 h3 h0 w).mono ?_
    rintro e w' ⟨h, rfl⟩
    exact ⟨h, Below.refl _ _⟩

theorem quot_any (hi lo d : Nat) (h1 : lo < 18446744073709551616) (h2 : d < 18446744073709551616) (_hh : hi < 18446744073709551616) (hd : 0 < d) (w : World) :
    Calls Try.prog 50 #[.int .u64 hi, .int .u64 lo, .int .u64 d] w fun e w' => e = .returned (.tuple #[.int .i64 (fit (((hi * 18446744073709551616 + lo) / d : Nat) : Int)), .bool (fitB (((hi * 18446744073709551616 + lo) / d : Nat) : Int))]) ∧ Below w.heap.size w w' := by
  by_cases hge : d ≤ hi
  · have hn : ¬ I64 (((hi * 18446744073709551616 + lo) / d : Nat) : Int) := by
      have : 18446744073709551616 ≤ (hi * 18446744073709551616 + lo) / d := by
        rw [Nat.le_div_iff_mul_le hd]
        have := Nat.mul_le_mul_right 18446744073709551616 hge
        omega
      unfold I64; omega
    rw [(fit_no hn).1, (fit_no hn).2]
    have hgi : (d : Int) ≤ (hi : Int) := by omega
    clear hn
    go_enter Try.func50, Try.ntmps50
    go_wp2
    go_ret2
    exact ⟨rfl, Below.refl _ _⟩
  · obtain ⟨V, hV⟩ : ∃ V, (hi * 18446744073709551616 + lo) / d = V := ⟨_, rfl⟩
    have D := div_all hi lo d h1 h2 (by omega) w
    rw [hV] at D
    rw [hV]
    have hgi : ¬ (d : Int) ≤ (hi : Int) := by omega
    have HD := Lib.hid D
    clear D hV
    by_cases hf : V ≤ 9223372036854775807
    · have hI : I64 (V : Int) := by unfold I64; omega
      rw [(fit_yes hI).1, (fit_yes hI).2]
      clear hI
      have hfi : (V : Int) ≤ 9223372036854775807 := by omega
      clear hf
      go_enter Try.func50, Try.ntmps50
      go_wp2_with fail
      with_reducible refine HD.out.mono ?_
      rintro e w1 ⟨⟨r, rfl⟩, b1⟩
      go_wp2
      go_ret2
      exact ⟨rfl, b1⟩
    · have hI : ¬ I64 (V : Int) := by unfold I64; omega
      rw [(fit_no hI).1, (fit_no hI).2]
      clear hI
      have hfi : ¬ (V : Int) ≤ 9223372036854775807 := by omega
      clear hf
      go_enter Try.func50, Try.ntmps50
      go_wp2_with fail
      with_reducible refine HD.out.mono ?_
      rintro e w1 ⟨⟨r, rfl⟩, b1⟩
      go_wp2
      go_ret2
      exact ⟨rfl, b1⟩

theorem not_i64 {x : Int} (h : I64 x) : bits .xor .i64 (-1) x = -1 - x := by
  obtain ⟨h0, h1⟩ := h
  show IntKind.i64.wrap ((BitVec.ofInt 64 (-1) ^^^ BitVec.ofInt 64 x).toNat : Int) = _
  have e : BitVec.ofInt 64 (-1) = BitVec.allOnes 64 := by decide
  rw [e, BitVec.allOnes_xor, BitVec.toNat_not, BitVec.toNat_ofInt, IntKind.wrap_i64]
  omega
theorem not_u64 {x : Int} (h0 : 0 ≤ x) (h1 : x < 18446744073709551616) : bits .xor .u64 IntKind.u64.max x = 18446744073709551615 - x := by
  show IntKind.u64.wrap ((BitVec.ofInt 64 IntKind.u64.max ^^^ BitVec.ofInt 64 x).toNat : Int) = _
  have e : BitVec.ofInt 64 IntKind.u64.max = BitVec.allOnes 64 := by decide
  rw [e, BitVec.allOnes_xor, BitVec.toNat_not, BitVec.toNat_ofInt, IntKind.wrap_u64]
  omega
theorem neg_quo {X d : Nat} (hd : 0 < d) : (-1 - (X : Int)) / (d : Int) = -1 - ((X / d : Nat) : Int) := by
  have hd' : (0 : Int) < (d : Int) := by omega
  have e := Nat.div_add_mod X d
  have hm := Nat.mod_lt X hd
  refine ((Int.ediv_emod_unique (r := (d : Int) - 1 - ((X % d : Nat) : Int)) hd').2 ⟨?_, by omega, by omega⟩).1
  have ec : (d : Int) * ((X / d : Nat) : Int) = ((d * (X / d) : Nat) : Int) := (Int.natCast_mul _ _).symm
  rw [Int.mul_sub, ec]
  omega

set_option maxHeartbeats 1000000 in
theorem floor_any (v : Int) (d : Nat) (hv : W128 v) (h2 : d < 18446744073709551616) (hd : 0 < d) (w : World) :
    Calls Try.prog 43 #[.agg #[.int .i64 (hi64 v), .int .u64 (lo64 v)], .int .u64 d] w fun e w' => e = .returned (.tuple #[.int .i64 (fit (v / d)), .bool (fitB (v / d))]) ∧ Below w.heap.size w w' := by
  by_cases hn : 0 ≤ v
  · obtain ⟨X, rfl⟩ := Int.eq_ofNat_of_zero_le hn
    have hX : X ≤ 85070591730234615865843651857942052864 := by unfold W128 at hv; omega
    have D := fun W => quot_any (X / 18446744073709551616) (X % 18446744073709551616) d (by omega) h2 (by omega) hd W
    rw [show X / 18446744073709551616 * 18446744073709551616 + X % 18446744073709551616 = X by omega] at D
    have n1 : IntKind.u64.wrap (hi64 (X : Int)) = ((X / 18446744073709551616 : Nat) : Int) := by unfold hi64; rw [IntKind.wrap_u64]; omega
    have n2 : lo64 (X : Int) = ((X % 18446744073709551616 : Nat) : Int) := by unfold lo64; omega
    have n3 : decide (0 ≤ hi64 (X : Int)) = true := by unfold hi64; simp; omega
    obtain ⟨hh, ehh⟩ : ∃ h, X / 18446744073709551616 = h := ⟨_, rfl⟩
    obtain ⟨ll, ell⟩ : ∃ l, X % 18446744073709551616 = l := ⟨_, rfl⟩
    rw [ehh, ell] at D
    rw [ehh] at n1
    rw [ell] at n2
    obtain ⟨V, eV⟩ : ∃ V : Int, (X : Int) / (d : Int) = V := ⟨_, rfl⟩
    have eV2 : ((X / d : Nat) : Int) = V := by rw [← eV, Int.natCast_ediv]
    rw [eV2] at D
    rw [eV]
    have HD := Lib.hid D
    clear D ehh ell hv hX h2 eV eV2
    go_enter Try.func43, Try.ntmps43
    go_wp2_with fail
    with_reducible refine (HD.out _).mono ?_
    rintro e w1 ⟨rfl, b1⟩
    go_wp2
    go_ret2
    exact ⟨rfl, on (one_below _ _) b1⟩
  · obtain ⟨X, hXe⟩ := Int.eq_ofNat_of_zero_le (show 0 ≤ -1 - v by omega)
    have hve : v = -1 - (X : Int) := by omega
    subst hve
    have hX : X ≤ 85070591730234615865843651857942052864 := by unfold W128 at hv; omega
    have D := fun W => quot_any (X / 18446744073709551616) (X % 18446744073709551616) d (by omega) h2 (by omega) hd W
    rw [show X / 18446744073709551616 * 18446744073709551616 + X % 18446744073709551616 = X by omega] at D
    have hI : I64 (hi64 (-1 - (X : Int))) := by unfold I64 hi64; omega
    have n1 : IntKind.u64.wrap (bits .xor .i64 (-1) (hi64 (-1 - (X : Int)))) = ((X / 18446744073709551616 : Nat) : Int) := by
      rw [not_i64 hI, IntKind.wrap_u64]; unfold hi64; omega
    have n2 : bits .xor .u64 IntKind.u64.max (lo64 (-1 - (X : Int))) = ((X % 18446744073709551616 : Nat) : Int) := by
      rw [not_u64 (lo_nonneg _) (lo_lt _)]; unfold lo64; omega
    have n3 : decide (0 ≤ hi64 (-1 - (X : Int))) = false := by unfold hi64; simp; omega
    obtain ⟨hh, ehh⟩ : ∃ h, X / 18446744073709551616 = h := ⟨_, rfl⟩
    obtain ⟨ll, ell⟩ : ∃ l, X % 18446744073709551616 = l := ⟨_, rfl⟩
    rw [ehh, ell] at D
    rw [ehh] at n1
    rw [ell] at n2
    obtain ⟨V, eV⟩ : ∃ V : Nat, X / d = V := ⟨_, rfl⟩
    rw [neg_quo hd, eV]
    rw [eV] at D
    obtain ⟨v, hve⟩ : ∃ v, -1 - (X : Int) = v := ⟨_, rfl⟩
    rw [hve] at n1 n2 n3 ⊢
    clear ehh ell hv hX h2 hXe hn hve hI eV
    by_cases hf : V ≤ 9223372036854775807
    · have f1 := fit_yes (v := (V : Int)) (by unfold I64; omega)
      have f2 := fit_yes (v := -1 - (V : Int)) (by unfold I64; omega)
      rw [f2.1, f2.2]
      rw [f1.1, f1.2] at D
      have n4 : bits .xor .i64 (-1) (V : Int) = -1 - (V : Int) := not_i64 (by unfold I64; omega)
      have HD := Lib.hid D
      have N4 := Lib.hid n4
      clear D f1 f2 hf n4
      go_enter Try.func43, Try.ntmps43
      go_wp2_with fail
      with_reducible refine (HD.out _).mono ?_
      rintro e w1 ⟨rfl, b1⟩
      go_wp2
      go_ret2
      exact ⟨ret_pair N4.out, on (one_below _ _) b1⟩
    · have f1 := fit_no (v := (V : Int)) (by unfold I64; omega)
      have f2 := fit_no (v := -1 - (V : Int)) (by unfold I64; omega)
      rw [f2.1, f2.2]
      rw [f1.1, f1.2] at D
      have HD := Lib.hid D
      clear D f1 f2 hf
      go_enter Try.func43, Try.ntmps43
      go_wp2_with fail
      with_reducible refine (HD.out _).mono ?_
      rintro e w1 ⟨rfl, b1⟩
      go_wp2
      go_ret2
      exact ⟨rfl, on (one_below _ _) b1⟩

theorem fsum_yes (d : Int) (x : Option Addr) (len cap : Nat) (zs : List Int) (w : World) (hd : 0 < d) (hd2 : I64 d) (h : Nums w x len zs) (h100 : len ≤ 100) :
    Calls Try.prog 29 #[.int .i64 d, .slice x len cap] w fun e w' => e = .returned (.tuple #[.int .i64 (fit (sumTo zs len / d)), .bool (fitB (sumTo zs len / d))]) ∧ Below w.heap.size w w' := by
  obtain ⟨D, rfl⟩ := Int.eq_ofNat_of_zero_le (show 0 ≤ d by omega)
  have hb := (sumTo_in h.ok h.le h100).1
  have n1 : IntKind.u64.wrap (D : Int) = (D : Int) := by unfold I64 at hd2; rw [IntKind.wrap_u64]; omega
  have hle : ¬ (D : Int) ≤ 0 := by omega
  have F := fun W => floor_any (sumTo zs len) D hb (by unfold I64 at hd2; omega) (by omega) W
  have HF := Lib.hid F
  clear F hb hd2 hd
  go_enter Try.func29, Try.ntmps29
  go_wp2_with fail
  with_reducible refine (total_any x len cap zs _ h h100).mono ?_
  rintro e w1 ⟨rfl, b1⟩
  go_wp2_with fail
  with_reducible refine (HF.out _).mono ?_
  rintro e w2 ⟨rfl, b2⟩
  go_wp2
  go_ret2
  exact ⟨rfl, on b1 b2⟩
theorem fsum_no (d : Int) (x : Option Addr) (len cap : Nat) (w : World) (hd : d ≤ 0) :
    Calls Try.prog 29 #[.int .i64 d, .slice x len cap] w fun e w' => e = .returned (.tuple #[.int .i64 0, .bool false]) ∧ w = w' := by
  go_enter Try.func29, Try.ntmps29
  go_wp2
  go_ret2
  exact ⟨rfl, rfl⟩
end Go.Proofs.Ytbkfmkbjfifgjaa
