/-
  What each call of package num does (layer 1): contracts over the translated text. Nothing that was in memory before turns.
-/
import Derived.Test.YtjaabjehegcnaaaDoorRows
import Derived.Test.YtjaabjehegcnaaaDoorNumMath
import Derived.WalkSpells
import Derived.WalkLawsBesides
import Derived.Deep.RegionHeld3
import Derived.Deep.RegionWith
import Derived.BigQuiet
namespace Go.Proofs.YtjaabjehegcnaaaDoor
open Go.RowKit

theorem bcell {W w1 : World} (hb : Below W.heap.size W w1) : (∀ b o, b < W.heap.size → w1.cell? ⟨b, o, none⟩ = W.cell? ⟨b, o, none⟩) ∧ (∀ b o, b < W.heap.size → w1.frozen? ⟨b, o, none⟩ = W.frozen? ⟨b, o, none⟩) :=
  ⟨fun b o h => hb.cell (p := ⟨b, o, none⟩) h, fun b o h => hb.frozen (p := ⟨b, o, none⟩) h⟩

theorem widen_any (a : Int) (h : I64 a) (w : World) :
    Calls Tryd.prog 68 #[.int .i64 a] w fun e w' => e = .returned (.agg #[.int .i64 (hi64 a), .int .u64 (lo64 a)]) ∧ Below w.heap.size w w' := by
  obtain ⟨h0, h1⟩ := h
  have e1 : a / 9223372036854775808 = hi64 a := by unfold hi64; omega
  have e2 : IntKind.u64.wrap a = lo64 a := by unfold lo64; rw [IntKind.wrap_u64]
  go_enter Tryd.func68, Tryd.ntmps68
  go_wp2
  exact bodyPost_ret (v := .agg #[.int .i64 (hi64 a), .int .u64 (lo64 a)]) (by simp [results, Tryd.results68, go_sem]) rfl ⟨rfl, (Below.refl _ _).alloc (Nat.le_refl _) _⟩

theorem add64_0 (x y : Int) (hx : 0 ≤ x) (hy : 0 ≤ y) (w : World) : (callFunc 81 #[.int .u64 x, .int .u64 y, .int .u64 0]).run Tryd.prog w =
    .ok (.value (.tuple #[.int .u64 (lo64 (x + y)), .int .u64 (hi64 (x + y))])) w := by
  rw [run_callFunc_extern Tryd.func81 (by kernel_rfl) (by kernel_rfl) (by kernel_rfl) (e := add64Entry) (by kernel_rfl), run_add64 x y 0 hx hy (by omega) (by omega)]
  simp only [Result.andThen, lo64, hi64, Int.add_zero]

/-- The model's entry for math/bits.Sub64. -/
def subEntry : Array Value → Sem Value := fun args => do
  let (x, y, b) ← Extern.MathBitsCarry.three "Sub64" args
  pure (Extern.MathBitsCarry.pair ((x + Extern.MathBitsCarry.m64 - y - b) % Extern.MathBitsCarry.m64) (if x < y + b then 1 else 0))

theorem sub64_0 (x y : Int) (hx : 0 ≤ x) (hy : 0 ≤ y) (hx1 : x < 18446744073709551616) (hy1 : y < 18446744073709551616) (w : World) : (callFunc 109 #[.int .u64 x, .int .u64 y, .int .u64 0]).run Tryd.prog w =
    .ok (.value (.tuple #[.int .u64 (lo64 (x - y)), .int .u64 (- hi64 (x - y))])) w := by
  rw [run_callFunc_extern Tryd.func109 (by kernel_rfl) (by kernel_rfl) (by kernel_rfl) (e := subEntry) (by kernel_rfl)]
  obtain ⟨x, rfl⟩ := Int.eq_ofNat_of_zero_le hx
  obtain ⟨y, rfl⟩ := Int.eq_ofNat_of_zero_le hy
  have k : (subEntry #[.int .u64 x, .int .u64 y, .int .u64 0]).run Tryd.prog w = .ok (Extern.MathBitsCarry.pair ((x + Extern.MathBitsCarry.m64 - y - 0) % Extern.MathBitsCarry.m64) (if x < y + 0 then 1 else 0)) w := rfl
  have e1 : Int.ofNat ((x + Extern.MathBitsCarry.m64 - y - 0) % Extern.MathBitsCarry.m64) = lo64 ((x : Int) - y) := by
    unfold lo64 Extern.MathBitsCarry.m64; simp; omega
  have e2 : Int.ofNat (if x < y + 0 then 1 else 0) = - hi64 ((x : Int) - y) := by
    unfold hi64; split <;> simp <;> omega
  rw [k]
  simp only [Result.andThen, Extern.MathBitsCarry.pair, e1, e2]

theorem plus_any (x y : Int) (hs : W128 (x + y)) (w : World) :
    Calls Tryd.prog 69 #[.agg #[.int .i64 (hi64 x), .int .u64 (lo64 x)], .agg #[.int .i64 (hi64 y), .int .u64 (lo64 y)]] w fun e w' => e = .returned (.agg #[.int .i64 (hi64 (x + y)), .int .u64 (lo64 (x + y))]) ∧ Below w.heap.size w w' := by
  have E1 : Hid (wrap64 (wrap64 (hi64 x + hi64 y) + hi64 (lo64 x + lo64 y)) = hi64 (x + y)) := by
    show _ = _
    unfold W128 at *; unfold wrap64 hi64 lo64; omega
  have E2 : Hid (lo64 (lo64 x + lo64 y) = lo64 (x + y)) := by show _ = _; unfold lo64; omega
  have b1 : 0 ≤ lo64 x := lo_nonneg x
  have b2 : 0 ≤ lo64 y := lo_nonneg y
  have b3 : 0 ≤ hi64 (lo64 x + lo64 y) ∧ hi64 (lo64 x + lo64 y) ≤ 1 := by unfold lo64 hi64; omega
  obtain ⟨b3, b4⟩ := b3
  clear hs
  go_enter Tryd.func69, Tryd.ntmps69
  go_wp2_with (simp only [add64_0 (lo64 x) (lo64 y) b1 b2])
  rw [E1.out, E2.out]
  exact bodyPost_ret (v := .agg #[.int .i64 (hi64 (x + y)), .int .u64 (lo64 (x + y))]) (by simp [results, Tryd.results69, go_sem]) rfl ⟨rfl, (((Below.refl _ _).alloc (Nat.le_refl _) _).alloc (by simp) _).alloc (by simp; omega) _⟩

theorem minus_any (x y : Int) (hs : W128 (x - y)) (w : World) :
    Calls Tryd.prog 92 #[.agg #[.int .i64 (hi64 x), .int .u64 (lo64 x)], .agg #[.int .i64 (hi64 y), .int .u64 (lo64 y)]] w fun e w' => e = .returned (.agg #[.int .i64 (hi64 (x - y)), .int .u64 (lo64 (x - y))]) ∧ Below w.heap.size w w' := by
  have E1 : Hid (wrap64 (wrap64 (hi64 x - hi64 y) + hi64 (lo64 x - lo64 y)) = hi64 (x - y)) := by
    show _ = _
    unfold W128 at *; unfold wrap64 hi64 lo64; omega
  have E2 : Hid (lo64 (lo64 x - lo64 y) = lo64 (x - y)) := by show _ = _; unfold lo64; omega
  have b1 : 0 ≤ lo64 x := lo_nonneg x
  have b2 : 0 ≤ lo64 y := lo_nonneg y
  have b3 : 0 ≤ -hi64 (lo64 x - lo64 y) ∧ -hi64 (lo64 x - lo64 y) ≤ 1 := by unfold lo64 hi64; omega
  obtain ⟨b3, b4⟩ := b3
  clear hs
  go_enter Tryd.func92, Tryd.ntmps92
  go_wp2_with (simp only [sub64_0 (lo64 x) (lo64 y) b1 b2 (lo_lt x) (lo_lt y)])
  rw [E1.out, E2.out]
  exact bodyPost_ret (v := .agg #[.int .i64 (hi64 (x - y)), .int .u64 (lo64 (x - y))]) (by simp [results, Tryd.results92, go_sem]) rfl ⟨rfl, (((Below.refl _ _).alloc (Nat.le_refl _) _).alloc (by simp) _).alloc (by simp; omega) _⟩

set_option maxHeartbeats 400000 in
theorem narrow_yes (x : Int) (hx : I64 x) (w : World) :
    Calls Tryd.prog 67 #[.agg #[.int .i64 (hi64 x), .int .u64 (lo64 x)]] w fun e w' => e = .returned (.tuple #[.int .i64 x, .bool true]) ∧ Below w.heap.size w w' := by
  have e1 : wrap64 (lo64 x) = x := by obtain ⟨hx0, hx1⟩ := hx; unfold wrap64 lo64; omega
  go_enter Tryd.func67, Tryd.ntmps67
  go_wp2
  go_region_held3 (fun w' => w'.cell? ⟨w.heap.size, 0, none⟩ = some (.int .i64 (hi64 x)) ∧ w'.cell? ⟨w.heap.size, 1, none⟩ = some (.int .u64 (lo64 x))) (first | (simp [go_sem]; done) | (refine ⟨?_, ?_⟩ <;> (rw [hb.cell (by simp)]; simp [go_sem])))
    (first | (go_at_call 68; refine (widen_any _ hx _).mono ?_; rintro e w' ⟨rfl, hb⟩))
  go_wp2
  go_ret2
  exact ⟨rfl, (((Below.refl _ _).alloc (Nat.le_refl _) _).drew).trans (hb.mono (by simp))⟩

set_option maxHeartbeats 400000 in
theorem narrow_no (x : Int) (hx : ¬ I64 x) (w : World) :
    Calls Tryd.prog 67 #[.agg #[.int .i64 (hi64 x), .int .u64 (lo64 x)]] w fun e w' => e = .returned (.tuple #[.int .i64 0, .bool false]) ∧ Below w.heap.size w w' := by
  have hn : I64 (wrap64 (lo64 x)) := by unfold I64 wrap64 lo64; omega
  have e1 : lo64 (wrap64 (lo64 x)) = lo64 x := by unfold wrap64 lo64; omega
  have e2 : hi64 (wrap64 (lo64 x)) ≠ hi64 x := by
    intro h
    exact hx (by rw [← hi_lo_eq h e1]; exact hn)
  have e3 : (hi64 (wrap64 (lo64 x)) == hi64 x) = false := by simp [e2]
  obtain ⟨n, hN⟩ : ∃ n, wrap64 (lo64 x) = n := ⟨_, rfl⟩
  rw [hN] at hn e1 e2 e3
  go_enter Tryd.func67, Tryd.ntmps67
  go_wp2
  go_region_held3 (fun w' => w'.cell? ⟨w.heap.size, 0, none⟩ = some (.int .i64 (hi64 x)) ∧ w'.cell? ⟨w.heap.size, 1, none⟩ = some (.int .u64 (lo64 x))) (first | (simp [go_sem]; done) | (refine ⟨?_, ?_⟩ <;> (rw [hb.cell (by simp)]; simp [go_sem])))
    (first | (go_at_call 68; refine (widen_any _ hn _).mono ?_; rintro e w' ⟨rfl, hb⟩))
  go_wp2
  go_ret2
  exact ⟨rfl, (((Below.refl _ _).alloc (Nat.le_refl _) _).drew).trans (hb.mono (by simp))⟩

theorem narrow_any (x : Int) (w : World) :
    Calls Tryd.prog 67 #[.agg #[.int .i64 (hi64 x), .int .u64 (lo64 x)]] w fun e w' => e = .returned (.tuple #[.int .i64 (fit x), .bool (fitB x)]) ∧ Below w.heap.size w w' := by
  by_cases h : I64 x
  · obtain ⟨e1, e2⟩ := fit_yes h
    rw [e1, e2]; exact narrow_yes x h w
  · obtain ⟨e1, e2⟩ := fit_no h
    rw [e1, e2]; exact narrow_no x h w

set_option maxHeartbeats 1000000 in
theorem mul64_nat (x y : Nat) (hx : x < 18446744073709551616) (hy : y < 18446744073709551616) (w : World) :
    Calls Tryd.prog 77 #[.int .u64 x, .int .u64 y] w fun e w' => e = .returned (.tuple #[.int .u64 ((x * y / 18446744073709551616 : Nat) : Int), .int .u64 ((x * y % 18446744073709551616 : Nat) : Int)]) ∧ w = w' := by
  obtain ⟨bd, bt, bw, hhi⟩ := Lib.mul64_hi x y hx hy
  have ba := Lib.half_mul_le (a := x / 4294967296) (b := y / 4294967296) (by omega) (by omega)
  have bb := Lib.half_mul_le (a := x / 4294967296) (b := y % 4294967296) (by omega) (by omega)
  have bc := Lib.half_mul_le (a := x % 4294967296) (b := y / 4294967296) (by omega) (by omega)
  have ba' : x / 4294967296 * (y / 4294967296) < 18446744073709551616 := by omega
  have bb' : x / 4294967296 * (y % 4294967296) < 18446744073709551616 := by omega
  have bc' : x % 4294967296 * (y / 4294967296) < 18446744073709551616 := by omega
  have bh1 : x / 4294967296 * (y / 4294967296) + (x / 4294967296 * (y % 4294967296) + x % 4294967296 * (y % 4294967296) / 4294967296) / 4294967296 < 18446744073709551616 := by omega
  have bh : x / 4294967296 * (y / 4294967296) + (x / 4294967296 * (y % 4294967296) + x % 4294967296 * (y % 4294967296) / 4294967296) / 4294967296 + ((x / 4294967296 * (y % 4294967296) + x % 4294967296 * (y % 4294967296) / 4294967296) % 4294967296 + x % 4294967296 * (y / 4294967296)) / 4294967296 < 18446744073709551616 := by omega
  go_enter Tryd.func77, Tryd.ntmps77
  go_wp2
  simp only [maskN x hx, maskN y hy, divN, mulN, addN, wrapN _ bd, wrapN _ bb', wrapN _ bt, maskN _ bt, wrapN _ bc', wrapN _ bw, wrapN _ ba', wrapN _ bh1, wrapN _ bh, wrapM (x * y)]
  rw [hhi]
  go_ret2
  exact ⟨rfl, rfl⟩

theorem mul64_any (x y : Int) (hx0 : 0 ≤ x) (hx : x < 18446744073709551616) (hy0 : 0 ≤ y) (hy : y < 18446744073709551616) (w : World) :
    Calls Tryd.prog 77 #[.int .u64 x, .int .u64 y] w fun e w' => e = .returned (.tuple #[.int .u64 (hi64 (x * y)), .int .u64 (lo64 (x * y))]) ∧ w = w' := by
  obtain ⟨x, rfl⟩ := Int.eq_ofNat_of_zero_le hx0
  obtain ⟨y, rfl⟩ := Int.eq_ofNat_of_zero_le hy0
  have e1 : hi64 ((x : Int) * y) = ((x * y / 18446744073709551616 : Nat) : Int) := by unfold hi64; rw [mulN]; omega
  have e2 : lo64 ((x : Int) * y) = ((x * y % 18446744073709551616 : Nat) : Int) := by unfold lo64; rw [mulN]; omega
  rw [e1, e2]
  exact mul64_nat x y (by omega) (by omega) w

set_option maxHeartbeats 400000 in
theorem product_any (a b : Int) (ha : I64 a) (hb : I64 b) (w : World) :
    Calls Tryd.prog 64 #[.int .i64 a, .int .i64 b] w fun e w' => e = .returned (.agg #[.int .i64 (hi64 (a * b)), .int .u64 (lo64 (a * b))]) ∧ Below w.heap.size w w' := by
  have H1 := Lib.hid (mul_hi a b ha hb)
  have H2 := Lib.hid (mul_lo a b)
  have u1 : IntKind.u64.wrap a = lo64 a := by unfold lo64; rw [IntKind.wrap_u64]
  have u2 : IntKind.u64.wrap b = lo64 b := by unfold lo64; rw [IntKind.wrap_u64]
  by_cases h1 : a < 0 <;> by_cases h2 : b < 0
  all_goals
    have H3 := H1.out
    simp only [h1, h2, if_true, if_false, Int.sub_zero, wrap_wrap] at H3
    have H4 := Lib.hid H3
    clear H3
  all_goals
    go_enter Tryd.func64, Tryd.ntmps64
    go_wp2_with (go_at_call 77; refine (mul64_any _ _ (lo_nonneg a) (lo_lt a) (lo_nonneg b) (lo_lt b) _).mono ?_; rintro e w' ⟨rfl, rfl⟩)
    rw [H4.out, H2.out]
    exact bodyPost_ret (v := .agg #[.int .i64 (hi64 (a * b)), .int .u64 (lo64 (a * b))]) (by simp [results, Tryd.results64, go_sem]) rfl ⟨rfl, (Below.refl _ _).alloc (Nat.le_refl _) _⟩

theorem nani_any (x : Int) (w : World) : Calls Tryd.prog 93 #[.int .i64 x] w fun e w' => e = .returned (.bool false) ∧ w = w' := by
  go_enter Tryd.func93, Tryd.ntmps93
  go_wp2
  go_ret
  exact ⟨by simp, rfl⟩
theorem nanu_any (x : Int) (w : World) : Calls Tryd.prog 94 #[.int .u64 x] w fun e w' => e = .returned (.bool false) ∧ w = w' := by
  go_enter Tryd.func94, Tryd.ntmps94
  go_wp2
  go_ret
  exact ⟨by simp, rfl⟩

theorem cmpi_any (x y : Int) (w : World) : Calls Tryd.prog 79 #[.int .i64 x, .int .i64 y] w fun e w' => e = .returned (.int .i64 (cmp3 x y)) ∧ w = w' := by
  go_enter Tryd.func79, Tryd.ntmps79
  go_wp2_with (go_at_call 93; refine (nani_any _ _).mono ?_; rintro e w' ⟨rfl, rfl⟩)
  all_goals (go_ret; exact ⟨by unfold cmp3; (repeat' split) <;> first | rfl | omega, rfl⟩)
theorem cmpu_any (x y : Int) (w : World) : Calls Tryd.prog 80 #[.int .u64 x, .int .u64 y] w fun e w' => e = .returned (.int .i64 (cmp3 x y)) ∧ w = w' := by
  go_enter Tryd.func80, Tryd.ntmps80
  go_wp2_with (go_at_call 94; refine (nanu_any _ _).mono ?_; rintro e w' ⟨rfl, rfl⟩)
  all_goals (go_ret; exact ⟨by unfold cmp3; (repeat' split) <;> first | rfl | omega, rfl⟩)

end Go.Proofs.YtjaabjehegcnaaaDoor
