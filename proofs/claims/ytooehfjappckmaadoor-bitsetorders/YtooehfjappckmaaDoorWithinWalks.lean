/-
  What Within, Equal (and slices.Equal) do.
-/
import Derived.Test.YtooehfjappckmaaDoorJoinLess
namespace Go.Proofs.YtooehfjappckmaaDoor
set_option maxRecDepth 100000
open Go.RowKit

/-- Is all of p in q? -/
def wi (n : Nat) (p q : Nat → Bool) : Bool := (lst (lessP n p q) n).length == 0
theorem cnt_pos {f : Nat → Bool} {m i : Nat} (hi : i < m) (hf : f i = true) : 0 < cnt f m := by
  induction m with
  | zero => omega
  | succ m ih =>
    rw [cnt]
    by_cases e : i = m
    · subst e; rw [hf]; simp
    · have := ih (by omega); omega
theorem wi_true {n : Nat} {p q : Nat → Bool} (h : ∀ i, i < n → p i = true → q i = true) : wi n p q = true := by
  unfold wi
  rw [lst_len, cnt_none (fun j hj => ?_)]
  · rfl
  · unfold lessP
    cases hp : p j with
    | false => simp
    | true => rw [h j hj hp]; simp
theorem wi_false {n i : Nat} {p q : Nat → Bool} (hi : i < n) (hp : p i = true) (hq : q i = false) : wi n p q = false := by
  unfold wi
  rw [lst_len]
  have : 0 < cnt (lessP n p q) n := cnt_pos hi (by unfold lessP; rw [hp, hq, decide_eq_true hi]; rfl)
  simp; omega
theorem wi_iff {n : Nat} {p q : Nat → Bool} (h : wi n p q = true) : ∀ i, i < n → p i = true → q i = true := by
  intro i hi hp
  cases hq : q i with
  | true => rfl
  | false => rw [wi_false hi hp hq] at h; cases h

theorem word_none {p q : Nat → Bool} {k : Nat} (h : wd (fun i => p i && !q i) k = 0) : ∀ i, 64 * k ≤ i → i < 64 * (k + 1) → p i = true → q i = true := by
  intro i h1 h2 hp
  have := wd_ne h (i - 64 * k) (by omega)
  rw [show 64 * k + (i - 64 * k) = i by omega, hp] at this
  simpa using this
theorem word_some {p q : Nat → Bool} {k : Nat} (h : wd (fun i => p i && !q i) k ≠ 0) : ∃ i, p i = true ∧ q i = false := by
  obtain ⟨_, h1, _⟩ := ctz_is h (wd_lt _ _)
  rw [wd_bit] at h1
  simp only [Bool.and_eq_true, decide_eq_true_eq, Bool.not_eq_true'] at h1
  exact ⟨_, h1.2.1, h1.2.2⟩

set_option maxHeartbeats 2000000 in
theorem within_any (n m : Nat) (p q : Nat → Bool) (x y : Option Addr) (c d : Nat) (w : World) (h1 : SetAt w n p x c) (h2 : SetAt w m q y d) :
    Calls Tryd.prog 28 #[.agg #[.int .i64 n, .slice x (nw n) c], .agg #[.int .i64 m, .slice y (nw m) d]] w fun e w' => e = .returned (.bool (wi n p q)) ∧ Below w.heap.size w w' := by
  have hN := nw_le h1.le
  have hM := nw_le h2.le
  have W2 := fun k W (hW : SetAt W m q y d) => word_any (.int .i64 m) y d (nw m) q k W hW.words (fun hk => wd_out hW.out hk)
  have Y := sbox_new (w.alloc (.cells #[.int .i64 n, .slice x (nw n) c] 25)) (.int .i64 m) (.slice y (nw m) d) 25
  simp only [World.size_alloc] at Y
  have HY := Lib.hid Y
  have HB2 : Hid (Below w.heap.size w ((w.alloc (.cells #[.int .i64 n, .slice x (nw n) c] 25)).alloc (.cells #[.int .i64 m, .slice y (nw m) d] 25))) := on (one_below _ _) (one_below _ _)
  have H1 := Lib.hid h1
  have H2 := Lib.hid h2
  clear h1 h2 Y
  go_enter Tryd.func28, Tryd.ntmps28
  go_wp2
  go_loopw [10] (fun i wr => ∃ k : Nat, k ≤ nw n ∧ i = .int .i64 k ∧ Hid (∀ i, i < 64 * k → p i = true → q i = true) ∧ SBox (w.heap.size + 1) (.int .i64 m) (.slice y (nw m) d) wr ∧ Below w.heap.size w wr) (fun i _ => nw n - (intOf i).toNat)
  case atStart => exact ⟨0, by omega, rfl, fun i hi => by omega, HY.out, HB2.out⟩
  case round =>
    obtain ⟨k, hk, rfl, hz, hY, hB⟩ := hrel
    clear HY HB2
    by_cases hlt : k < nw n
    · obtain ⟨bx, rfl, hbx, hcx⟩ := (H1.out.words.below hB).at hlt
      have WO := W2 k wr (H2.out.below hB)
      have ha := u64_andNot_nat (wd p k) (wd q k) (wd_lt _ _) (wd_lt _ _)
      rw [← wd_less] at ha
      have HY := Lib.hid hY
      have HB := Lib.hid hB
      obtain ⟨y0, y1, y2, y3, y4⟩ := hY
      by_cases hv : wd (fun i => p i && !q i) k = 0
      · have hz1 : Hid (∀ i, i < 64 * (k + 1) → p i = true → q i = true) := by
          intro i hi hp
          by_cases h : i < 64 * k
          · exact hz i h hp
          · exact word_none hv i (by omega) hi hp
        rw [hv] at ha
        generalize wd p k = u at *
        generalize wd q k = u' at *
        have ha' : bits .andNot .u64 (u : Int) (u' : Int) = 0 := ha
        clear hz hv ha W2 hB
        go_wp2_with fail
        with_reducible refine WO.mono ?_
        rintro e w2 ⟨rfl, b2⟩
        have HY2 := Lib.hid (HY.out.next b2)
        have HB2 := Lib.hid (on HB.out b2)
        clear b2 y0 y1 y2 y3 y4 hcx WO
        go_wp2
        go_roundw
        case rel => exact ⟨k + 1, by omega, by go_num, hz1, HY2.out, HB2.out⟩
        case measure => simp [intOf]; omega
      · have HR : Hid (wi n p q = false) := by
          obtain ⟨i, h1, h2⟩ := word_some hv
          have hin : i < n := by
            rcases Nat.lt_or_ge i n with h | h
            · exact h
            · rw [H1.out.out i h] at h1; cases h1
          exact wi_false hin h1 h2
        generalize wd (fun i => p i && !q i) k = z at *
        generalize wd p k = u at *
        generalize wd q k = u' at *
        have hz0 : ((z : Int) != 0) = true := by simp; omega
        clear hz hv W2 hB
        go_wp2_with fail
        with_reducible refine WO.mono ?_
        rintro e w2 ⟨rfl, b2⟩
        have HB2 := Lib.hid (on HB.out b2)
        clear b2 y0 y1 y2 y3 y4 hcx WO
        go_wp2
        go_ret
        exact ⟨ret_bool HR.out.symm, HB2.out⟩
    · have HR : Hid (wi n p q = true) := wi_true fun i hi hp => hz i (by unfold nw at *; omega) hp
      have HB := Lib.hid hB
      clear hz hY hB W2
      go_wp2
      go_ret
      exact ⟨ret_bool HR.out.symm, HB.out⟩

/-- slices.Equal on the words of two sets. -/
theorem sequal_any (N : Nat) (p q : Nat → Bool) (x y : Option Addr) (c d : Nat) (hN : N ≤ 64) (r : Bool) (hr : r = true ↔ ∀ k, k < N → wd p k = wd q k) (w : World) (h1 : WordsAt w x c N p) (h2 : WordsAt w y d N q) :
    Calls Tryd.prog 47 #[.slice x N c, .slice y N d] w fun e w' => e = .returned (.bool r) ∧ Below w.heap.size w w' := by
  obtain ⟨q1, q2⟩ := h1.cap_ok
  obtain ⟨q3, q4⟩ := h2.cap_ok
  unfold maxLen at q2 q4
  have Hr := Lib.hid hr
  clear hr
  go_enter Tryd.func47, Tryd.ntmps47
  go_wp2
  go_loopw [13] (fun i wr => ∃ k : Nat, k ≤ N ∧ i = .int .i64 k ∧ Hid (∀ j, j < k → wd p j = wd q j) ∧ Below w.heap.size w wr) (fun i _ => N - (intOf i).toNat)
  case atStart => exact ⟨0, by omega, rfl, fun j hj => by omega, Below.refl _ _⟩
  case round =>
    obtain ⟨k, hk, rfl, hz, hB⟩ := hrel
    by_cases hlt : k < N
    · obtain ⟨b1, rfl, _, g1⟩ := (h1.below hB).at hlt
      obtain ⟨b2, rfl, _, g2⟩ := (h2.below hB).at hlt
      have HB := Lib.hid hB
      by_cases he : wd p k = wd q k
      · have hz1 : Hid (∀ j, j < k + 1 → wd p j = wd q j) := by
          intro j hj
          by_cases e : j = k
          · rw [e]; exact he
          · exact hz j (by omega)
        rw [← he] at g2
        generalize wd p k = u at *
        clear hz he h1 h2 hB
        go_wp2
        go_quiet (fail)
        go_wp2
        go_roundw
        case rel => exact ⟨k + 1, by omega, by go_num, hz1, below_drewN HB.out _⟩
        case measure => simp [intOf]; omega
      · have hr : Hid (r = false) := by
          show _ = _
          cases hh : r with
          | false => rfl
          | true => exact absurd (Hr.out.1 hh k hlt) he
        have hne : (((wd p k : Nat) : Int) == ((wd q k : Nat) : Int)) = false := by simp; omega
        generalize wd p k = u at *
        generalize wd q k = u' at *
        have HB' := HB
        clear hz he h1 h2 hB
        go_wp2
        go_quiet (fail)
        go_wp2
        go_ret
        exact ⟨ret_bool hr.out.symm, below_drewN HB.out _⟩
    · obtain rfl : k = N := by omega
      have hr : Hid (r = true) := Hr.out.2 hz.out
      have HB := Lib.hid hB
      clear hz h1 h2 hB
      go_wp2
      go_ret
      exact ⟨ret_bool hr.out.symm, HB.out⟩

/-- Have both the same size and the same numbers? -/
def eqB (n m : Nat) (p q : Nat → Bool) : Bool := (n == m) && wi n p q && wi m q p
theorem eqB_iff {n : Nat} {p q : Nat → Bool} (hp : ∀ i, n ≤ i → p i = false) (hq : ∀ i, n ≤ i → q i = false) : eqB n n p q = true ↔ ∀ k, k < nw n → wd p k = wd q k := by
  unfold eqB
  simp only [beq_self_eq_true, Bool.true_and, Bool.and_eq_true]
  constructor
  · rintro ⟨h1, h2⟩ k _
    refine wd_congr fun j _ => ?_
    by_cases hi : 64 * k + j < n
    · have a1 := wi_iff h1 _ hi
      have a2 := wi_iff h2 _ hi
      cases e1 : p (64 * k + j) with
      | true => exact (a1 e1).symm
      | false =>
        cases e2 : q (64 * k + j) with
        | false => rfl
        | true => rw [a2 e2] at e1; cases e1
    · rw [hp _ (by omega), hq _ (by omega)]
  · intro h
    have he : ∀ i, i < n → p i = q i := by
      intro i hi
      have := congrArg (fun z => Nat.testBit z (i % 64)) (h (i / 64) (nw_at hi))
      simp only [wd_bit, show 64 * (i / 64) + i % 64 = i by omega] at this
      simpa [show i % 64 < 64 by omega] using this
    exact ⟨wi_true fun i hi h1 => by rw [← he i hi]; exact h1, wi_true fun i hi h1 => by rw [he i hi]; exact h1⟩

theorem equal_any (n m : Nat) (p q : Nat → Bool) (x y : Option Addr) (c d : Nat) (w : World) (h1 : SetAt w n p x c) (h2 : SetAt w m q y d) :
    Calls Tryd.prog 29 #[.agg #[.int .i64 n, .slice x (nw n) c], .agg #[.int .i64 m, .slice y (nw m) d]] w fun e w' => e = .returned (.bool (eqB n m p q)) ∧ Below w.heap.size w w' := by
  have HB2 : Hid (Below w.heap.size w ((w.alloc (.cells #[.int .i64 n, .slice x (nw n) c] 25)).alloc (.cells #[.int .i64 m, .slice y (nw m) d] 25))) := on (one_below _ _) (one_below _ _)
  by_cases hnm : n = m
  · subst hnm
    have SE := sequal_any (nw n) p q x y c d (nw_le h1.le) (eqB n n p q) (eqB_iff h1.out h2.out) _ (h1.words.below HB2.out) (h2.words.below HB2.out)
    generalize eqB n n p q = r at *
    clear h1 h2
    go_enter Tryd.func29, Tryd.ntmps29
    go_wp2_with fail
    with_reducible refine SE.mono ?_
    rintro e w2 ⟨rfl, b2⟩
    have B := on HB2.out b2
    clear b2 HB2 SE
    go_wp2
    go_ret
    exact ⟨rfl, B⟩
  · have hr : eqB n m p q = false := by
      unfold eqB
      have : (n == m) = false := by simp [hnm]
      rw [this]; rfl
    have hne : ((n : Int) == (m : Int)) = false := by simp; omega
    rw [hr]
    clear h1 h2 hr hnm
    go_enter Tryd.func29, Tryd.ntmps29
    go_wp2
    go_ret
    exact ⟨rfl, HB2.out⟩
end Go.Proofs.YtooehfjappckmaaDoor
