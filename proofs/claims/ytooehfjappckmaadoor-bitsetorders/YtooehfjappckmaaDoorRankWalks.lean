/-
  What Rank does, and the document's Cmp.
-/
import Derived.Test.YtooehfjappckmaaDoorDocWalks
import Derived.Test.YtooehfjappckmaaDoorOrderMath
namespace Go.Proofs.YtooehfjappckmaaDoor
set_option maxRecDepth 100000
open Go.RowKit

theorem WordsAt.take {w : World} {x : Option Addr} {cap N k : Nat} {p : Nat → Bool} (h : WordsAt w x cap N p) (hk : k < N) : WordsAt w x cap k p := by
  rcases h with ⟨_, _, h⟩ | ⟨b, h1, h2, h3, h4, h5⟩
  · omega
  · exact .inr ⟨b, h1, h2, by omega, h4, fun i hi => h5 i (by omega)⟩

set_option maxHeartbeats 2000000 in
theorem rank_any (n : Nat) (x : Option Addr) (cap : Nat) (p : Nat → Bool) (i : Int) (w : World) (h : SetAt w n p x cap) :
    Calls Tryd.prog 34 #[.agg #[.int .i64 n, .slice x (nw n) cap], .int .i64 i] w fun e w' => e = .returned (.int .i64 ((rk n p i : Nat) : Int)) ∧ Below w.heap.size w w' := by
  have hle := h.le
  have hN := nw_le hle
  have HB := Lib.hid (one_below w (.cells #[.int .i64 n, .slice x (nw n) cap] 25))
  by_cases h0 : i ≤ 0
  · have hr : rk n p i = 0 := by unfold rk; rw [show min i.toNat n = 0 by omega]; rfl
    rw [hr]
    clear h hr
    go_enter Tryd.func34, Tryd.ntmps34
    go_wp2
    go_ret
    exact ⟨rfl, HB.out⟩
  · by_cases h1 : (n : Int) ≤ i
    · have hr : rk n p i = cnt p n := by unfold rk; rw [show min i.toNat n = n by omega]
      have CO := count_any (.int .i64 n) n x cap p _ (h.below HB.out)
      rw [hr]
      clear h hr
      go_enter Tryd.func34, Tryd.ntmps34
      go_wp2_with fail
      with_reducible refine CO.mono ?_
      rintro e w1 ⟨rfl, b1⟩
      have B := on HB.out b1
      clear b1 CO HB
      go_wp2
      go_ret
      exact ⟨rfl, B⟩
    · obtain ⟨m, rfl⟩ := Int.eq_ofNat_of_zero_le (show 0 ≤ i by omega)
      have hmn : m < n := by omega
      have hk : m / 64 < nw n := nw_at hmn
      have hj : m % 64 < 64 := by omega
      have hr : rk n p (m : Int) = cnt p (64 * (m / 64)) + cnt (wd p (m / 64) &&& (2 ^ (m % 64) - 1)).testBit 64 := by
        rw [← rank_word p (m / 64) (m % 64) hj]
        unfold rk
        congr 1
        omega
      have hW := h.words.below (one_below w (.cells #[.int .i64 n, .slice x (nw n) cap] 25))
      obtain ⟨b, rfl, hb, hc⟩ := hW.at hk
      have hp : (2 : Nat) ^ (m % 64) < 2 ^ 64 := Nat.pow_lt_pow_right (by omega) hj
      have hu := wd_lt p (m / 64)
      have ha := bits_and_u64_nat (wd p (m / 64)) (2 ^ (m % 64) - 1) hu (by omega)
      have ON := fun nq => ones_any (some ⟨b, 0, none⟩) cap (m / 64) p (by omega) ((w.alloc (.cells #[.int .i64 n, .slice (some ⟨b, 0, none⟩) (nw n) cap] 25)).drewN nq) ((hW.take hk).below (below_drewN (Below.refl _ _) _))
      have BE := fun W => below_any (m % 64) hj W
      have O6 := fun W => ones64_any (wd p (m / 64) &&& (2 ^ (m % 64) - 1)) (Nat.lt_of_le_of_lt Nat.and_le_left hu) W
      have hc1 := cnt_le p (64 * (m / 64))
      have hc2 := cnt_le (wd p (m / 64) &&& (2 ^ (m % 64) - 1)).testBit 64
      have hcap := (hW.cap_ok)
      obtain ⟨q1, q2⟩ := hcap
      unfold maxLen at q2
      have e1 : ((m : Nat) : Int) / 64 = ((m / 64 : Nat) : Int) := by omega
      have e2 : ((m : Nat) : Int) % 64 = ((m % 64 : Nat) : Int) := by omega
      have e3 : ((m : Nat) : Int).tmod 64 = ((m % 64 : Nat) : Int) := rfl
      generalize cnt (wd p (m / 64) &&& (2 ^ (m % 64) - 1)).testBit 64 = d2 at *
      generalize cnt p (64 * (m / 64)) = d1 at *
      generalize wd p (m / 64) &&& (2 ^ (m % 64) - 1) = v at *
      generalize 2 ^ (m % 64) - 1 = P at *
      generalize wd p (m / 64) = u at *
      generalize m / 64 = k at *
      generalize m % 64 = j at *
      have HR := Lib.hid hr
      have hkl : (k : Int) < (nw n : Int) := by omega
      have kw : IntKind.i64.wrap ((d1 : Int) + (d2 : Int)) = (d1 : Int) + (d2 : Int) := by rw [IntKind.wrap_i64]; omega
      clear h hW hr hp
      go_enter Tryd.func34, Tryd.ntmps34
      go_wp2
      go_quiet (first | (go_at_call 38; exact Calls.quiet_of_same (ON _)) | (go_at_call 53; exact Calls.quiet_of_same (BE _)) | (go_at_call 52; exact Calls.quiet_of_same (O6 _)))
      go_wp2
      go_ret
      exact ⟨ret_int (by have := HR.out; omega), below_drewN HB.out _⟩

theorem rcmp_any (n m : Nat) (p q : Nat → Bool) (x y : Option Addr) (c d : Nat) (hn : n ≤ 4096) (hm : m ≤ 4096) (hp : ∀ i, n ≤ i → p i = false) (hq : ∀ i, m ≤ i → q i = false) (w : World) (h1 : BoolsAt w x c n p) (h2 : BoolsAt w y d m q) :
    Calls Tryd.prog 33 #[.slice x n c, .slice y m d] w fun e w' => e = .returned (.int .i64 (cmpP p q (max n m))) ∧ w' = w := by
  have H1 := fun (k : Nat) => rhas_any x c n p hp (k : Int) w h1
  have H2 := fun (k : Nat) => rhas_any y d m q hq (k : Int) w h2
  have hh : ∀ (r : Nat → Bool) (k : Nat), has r (k : Int) = r k := fun r k => by unfold has; simp
  simp only [hh] at H1 H2
  obtain ⟨N, hN⟩ : ∃ N, max n m = N := ⟨_, rfl⟩
  have hNl : N ≤ 4096 := by omega
  rw [hN]
  have body : ∀ A : Act → World → Prop, True := fun _ => trivial
  clear h1 h2 hp hq hh body
  by_cases hnm : n < m
  · have hNm : N = m := by omega
    subst hNm
    have hgt : decide ((n : Int) < (N : Int)) = true := by simp; omega
    go_enter Tryd.func33, Tryd.ntmps33
    go_wp2
    go_loopw [6] (fun i wr => ∃ k : Nat, k ≤ N ∧ i = .int .i64 ((k : Int) - 1) ∧ Hid (cmpP p q N = cmpP p q k) ∧ wr = w) (fun i _ => (intOf i + 1).toNat)
    case atStart => exact ⟨N, by omega, rfl, rfl, rfl⟩
    case round =>
      obtain ⟨k, hk, rfl, hz, rfl⟩ := hrel
      cases k with
      | zero =>
        clear H1 H2
        go_wp2
        go_ret
        exact ⟨ret_int hz.out.symm, rfl⟩
      | succ k =>
        have F1 := H1 k
        have F2 := H2 k
        have ek : ((k + 1 : Nat) : Int) - 1 = (k : Int) := by omega
        rw [ek]
        have HZ : Hid (cmpP p q N = if p k && !q k then 1 else if q k && !p k then -1 else cmpP p q k) := hz
        generalize p k = pk at *
        generalize q k = qk at *
        clear hz H1 H2
        go_wp2_with fail
        with_reducible refine F1.mono ?_
        rintro e w2 ⟨rfl, rfl⟩
        go_wp2_with fail
        with_reducible refine F2.mono ?_
        rintro e w3 ⟨rfl, rfl⟩
        cases pk <;> cases qk
        · go_wp2
          go_roundw
          case rel => exact ⟨k, by omega, by go_num, HZ, trivial⟩
          case measure => simp [intOf]
        · go_wp2
          go_ret
          exact ⟨ret_int HZ.out.symm, rfl⟩
        · go_wp2
          go_ret
          exact ⟨ret_int HZ.out.symm, rfl⟩
        · go_wp2
          go_roundw
          case rel => exact ⟨k, by omega, by go_num, HZ, trivial⟩
          case measure => simp [intOf]
  · have hNm : N = n := by omega
    subst hNm
    have hgt : decide ((N : Int) < (m : Int)) = false := by simp; omega
    go_enter Tryd.func33, Tryd.ntmps33
    go_wp2
    go_loopw [6] (fun i wr => ∃ k : Nat, k ≤ N ∧ i = .int .i64 ((k : Int) - 1) ∧ Hid (cmpP p q N = cmpP p q k) ∧ wr = w) (fun i _ => (intOf i + 1).toNat)
    case atStart => exact ⟨N, by omega, rfl, rfl, rfl⟩
    case round =>
      obtain ⟨k, hk, rfl, hz, rfl⟩ := hrel
      cases k with
      | zero =>
        clear H1 H2
        go_wp2
        go_ret
        exact ⟨ret_int hz.out.symm, rfl⟩
      | succ k =>
        have F1 := H1 k
        have F2 := H2 k
        have ek : ((k + 1 : Nat) : Int) - 1 = (k : Int) := by omega
        rw [ek]
        have HZ : Hid (cmpP p q N = if p k && !q k then 1 else if q k && !p k then -1 else cmpP p q k) := hz
        generalize p k = pk at *
        generalize q k = qk at *
        clear hz H1 H2
        go_wp2_with fail
        with_reducible refine F1.mono ?_
        rintro e w2 ⟨rfl, rfl⟩
        go_wp2_with fail
        with_reducible refine F2.mono ?_
        rintro e w3 ⟨rfl, rfl⟩
        cases pk <;> cases qk
        · go_wp2
          go_roundw
          case rel => exact ⟨k, by omega, by go_num, HZ, trivial⟩
          case measure => simp [intOf]
        · go_wp2
          go_ret
          exact ⟨ret_int HZ.out.symm, rfl⟩
        · go_wp2
          go_ret
          exact ⟨ret_int HZ.out.symm, rfl⟩
        · go_wp2
          go_roundw
          case rel => exact ⟨k, by omega, by go_num, HZ, trivial⟩
          case measure => simp [intOf]
end Go.Proofs.YtooehfjappckmaaDoor
