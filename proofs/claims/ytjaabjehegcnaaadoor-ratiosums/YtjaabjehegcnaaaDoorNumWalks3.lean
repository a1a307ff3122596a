/-
  What each call of package num does (layer 1), third part: the greatest common divisor; what every statement asks first (wakes).
-/
import Derived.Test.YtjaabjehegcnaaaDoorNumWalks2
namespace Go.Proofs.YtjaabjehegcnaaaDoor
open Go.RowKit

theorem ret_two {k : IntKind} {a b : Int} {c d : Bool} (h : a = b) (h2 : c = d) : Ending.returned (.tuple #[.int k a, .bool c]) = .returned (.tuple #[.int k b, .bool d]) := by rw [h, h2]

theorem mag_any (a : Int) (ha : I64 a) (w : World) :
    Calls Tryd.prog 75 #[.int .i64 a] w fun e w' => e = .returned (.int .u64 (a.natAbs : Int)) ∧ w = w' := by
  obtain ⟨a0, a1⟩ := ha
  by_cases h : a < 0
  · have e1 : IntKind.u64.wrap (-IntKind.u64.wrap a) = (a.natAbs : Int) := by simp only [IntKind.wrap_u64]; omega
    go_enter Tryd.func75, Tryd.ntmps75
    go_wp2
    go_ret
    exact ⟨rfl, rfl⟩
  · have e1 : a = (a.natAbs : Int) := by omega
    have E1 := Lib.hid e1
    clear e1
    go_enter Tryd.func75, Tryd.ntmps75
    go_wp2
    go_ret
    exact ⟨ret_int E1.out, rfl⟩

theorem gcd_any (a b : Int) (ha : I64 a) (hb : I64 b) (w : World) :
    Calls Tryd.prog 60 #[.int .i64 a, .int .i64 b] w fun e w' => e = .returned (.tuple #[.int .i64 (fit (a.gcd b)), .bool (fitB (a.gcd b))]) ∧ Below w.heap.size w w' := by
  have m1 : a.natAbs ≤ 9223372036854775808 := by unfold I64 at ha; omega
  have m2 : b.natAbs ≤ 9223372036854775808 := by unfold I64 at hb; omega
  go_enter Tryd.func60, Tryd.ntmps60
  go_wp2_with (first | (go_at_call 75; refine (mag_any _ (by first | exact ha | exact hb) _).mono ?_; rintro e w' ⟨rfl, rfl⟩))
  go_loopw [6, 7] (fun x y wr => ∃ p q : Nat, p ≤ 9223372036854775808 ∧ q ≤ 9223372036854775808 ∧ x = .int .u64 p ∧ y = .int .u64 q ∧ Hid (Nat.gcd p q = a.gcd b) ∧ Below w.heap.size w wr) (fun _ y _ => (intOf y).toNat)
  case atStart => exact ⟨a.natAbs, b.natAbs, m1, m2, rfl, rfl, rfl, Below.refl _ _⟩
  case round =>
    obtain ⟨p, q, hp, hq, rfl, rfl, hg, hbel⟩ := hrel
    by_cases h : q = 0
    · subst h
      have hg' : (p : Int) = ((a.gcd b : Nat) : Int) := by have := hg.out; simp at this; rw [this]
      by_cases hc : p ≤ 9223372036854775807
      · have f1 := fit_yes (v := ((a.gcd b : Nat) : Int)) (by rw [← hg']; unfold I64; omega)
        obtain ⟨f1, f2⟩ := f1
        have H := Lib.hid (And.intro (f1.trans hg'.symm) f2)
        clear f1 f2 hg'
        go_wp2
        go_ret2
        exact ⟨ret_two H.out.1.symm H.out.2.symm, hbel⟩
      · have f1 := fit_no (v := ((a.gcd b : Nat) : Int)) (by rw [← hg']; unfold I64; omega)
        obtain ⟨f1, f2⟩ := f1
        have H := Lib.hid (And.intro f1 f2)
        clear f1 f2 hg'
        go_wp2
        go_ret2
        exact ⟨ret_two H.out.1.symm H.out.2.symm, hbel⟩
    · have hq1 : 0 < q := by omega
      have hl : p % q < q := Nat.mod_lt _ hq1
      go_wp2
      go_quiet (fail)
      go_wp2
      go_roundw
      case rel => exact ⟨q, p % q, by omega, by omega, by go_num, by go_num, by show _ = _; rw [← hg.out, Nat.gcd_comm p q, Nat.gcd_rec q p, Nat.gcd_comm], below_drewN hbel _⟩
      case measure => simp [intOf]; omega

end Go.Proofs.YtjaabjehegcnaaaDoor
