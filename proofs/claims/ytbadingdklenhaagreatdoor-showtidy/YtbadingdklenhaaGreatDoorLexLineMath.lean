/-
  Lines farther; a remark; code points written out (layer 8), over lists of bytes.
-/
import Derived.Test.YtbadingdklenhaaGreatDoorLexJoinMath
namespace Go.Proofs.YtbadingdklenhaaGreatDoor
open Go

/-- The same, some lines farther. -/
def Rs.shift (d : Nat) (r : Rs) : Rs := if r.err = 0 then { r with toks := r.toks.map (fun x => { x with line := x.line + d }) } else { r with line := r.line + d }
theorem shift_pre (d : Nat) (x : Tk) (r : Rs) : (Rs.pre [x] r).shift d = Rs.pre [{ x with line := x.line + d }] (r.shift d) := by
  unfold Rs.pre Rs.shift
  by_cases h : r.err = 0
  · rw [if_pos h, if_pos h, if_pos h, if_pos h]
    rfl
  · rw [if_neg h, if_neg h, if_neg h]
theorem shift_bad (d line col e : Nat) (he : e ≠ 0) : (Rs.bad line col e).shift d = Rs.bad (line + d) col e := by
  unfold Rs.shift
  exact if_neg he
theorem lx_shift : ∀ (n : Nat) (l : List UInt8), l.length ≤ n → ∀ line col rm d, lx l (line + d) col rm = (lx l line col rm).shift d := by
  intro n
  induction n with
  | zero =>
    intro l hl line col rm d
    obtain rfl : l = [] := List.eq_nil_of_length_eq_zero (by omega)
    rfl
  | succ n ih =>
    intro l hl line col rm d
    cases l with
    | nil => rfl
    | cons a r =>
      simp only [List.length_cons] at hl
      rw [lx_cons, lx_cons]
      by_cases h0 : pt (a :: r) = 0
      · rw [if_pos h0, if_pos h0, shift_bad _ _ _ _ (by omega)]
      rw [if_neg h0, if_neg h0]
      by_cases h10 : a = 10
      · rw [if_pos h10, if_pos h10, show line + d + 1 = line + 1 + d by omega]
        exact ih r (by omega) _ _ _ _
      rw [if_neg h10, if_neg h10]
      by_cases hb : (rm || isB a) = true
      · rw [if_pos hb, if_pos hb]
        exact ih _ (by rw [List.length_drop]; omega) _ _ _ _
      rw [if_neg hb, if_neg hb]
      by_cases ht : (tk (a :: r)).1 = 0
      · rw [if_neg (by omega), if_neg (by omega), shift_pre, ih _ (by rw [List.length_drop]; omega)]
        rfl
      · rw [if_pos ht, if_pos ht, shift_bad _ _ _ _ ht]

/-- A text in which each code point is whole, and none is a line feed. -/
def vdf : Nat → List UInt8 → Prop
  | _, [] => True
  | 0, _ :: _ => False
  | f + 1, a :: r => pt (a :: r) ≠ 0 ∧ a ≠ 10 ∧ vdf f (r.drop (pt (a :: r) - 1))
theorem drop_app {a : UInt8} {r : List UInt8} (X : List UInt8) (h : pt (a :: r) ≠ 0) : (r ++ X).drop (pt (a :: r ++ X) - 1) = r.drop (pt (a :: r) - 1) ++ X := by
  rw [pt_app X h]
  have := (pt_bytes h).1
  simp only [List.length_cons] at this
  rw [List.drop_append_of_le_length (by omega)]
theorem lx_rest : ∀ (f : Nat) (l : List UInt8), vdf f l → ∀ t line col, lx (l ++ 10 :: t) line col true = lx t (line + 1) 1 false
  | _, [], _, t, line, col => by
    rw [List.nil_append, lx_cons, if_neg (by rw [pt_ascii (by decide)]; omega), if_pos rfl]
  | 0, _ :: _, h, _, _, _ => absurd h id
  | f + 1, a :: r, h, t, line, col => by
    obtain ⟨h1, h2, h3⟩ := h
    have e := drop_app (10 :: t) h1
    have e2 := pt_app (10 :: t) h1
    rw [List.cons_append] at e e2
    rw [List.cons_append, lx_cons, if_neg (by rw [e2]; exact h1), if_neg h2, if_pos (by simp), e, Bool.true_or]
    exact lx_rest f _ h3 t line (col + 1)

/-- How many lines end in a text. -/
def lfs (l : List UInt8) : Nat := l.count 10
theorem lfs_skip {u v : List UInt8} (h : ∀ b ∈ u, b ≠ 10) : lfs (u ++ v) = lfs v := by
  unfold lfs
  rw [List.count_append, List.count_eq_zero.2 (fun hm => h 10 hm rfl)]
  omega
theorem pre_nil (r : Rs) : Rs.pre [] r = r := by
  unfold Rs.pre
  split <;> rfl
theorem pre_pre' (a b : List Tk) (r : Rs) : Rs.pre a (Rs.pre b r) = Rs.pre (a ++ b) r := by
  unfold Rs.pre
  by_cases h : r.err = 0
  · rw [if_pos h, if_pos h, if_pos h]
    simp
  · rw [if_neg h, if_neg h, if_neg h]
theorem pt_no10 {a : UInt8} {r : List UInt8} (h : pt (a :: r) ≠ 0) (h10 : a ≠ 10) : lfs (a :: r) = lfs (r.drop (pt (a :: r) - 1)) := by
  obtain ⟨h1, h2⟩ := pt_bytes h
  rw [drop_cons (a := a) (by omega)]
  conv => lhs; rw [← List.take_append_drop (pt (a :: r)) (a :: r)]
  refine lfs_skip fun b hb => ?_
  obtain ⟨k, hk⟩ := List.getElem?_of_mem hb
  rw [List.getElem?_take] at hk
  split at hk
  · rename_i hlt
    rcases Nat.eq_zero_or_pos k with h0 | h0
    · subst h0
      have : a = b := by simpa using hk
      rw [← this]; exact h10
    · obtain ⟨c, hc, h3⟩ := h2 k h0 hlt
      rw [hc] at hk
      rw [← Option.some.inj hk]
      intro e
      rw [e] at h3
      simp at h3
  · cases hk
theorem lx_app : ∀ (n : Nat) (l : List UInt8), l.length ≤ n → ∀ line col rm, (lx l line col rm).err = 0 →
    ∃ ts e2 c' rm', (lx l line col rm).toks = ts ++ [⟨3, [], 0, line + lfs l, e2⟩] ∧ ∀ R, lx (l ++ 32 :: R) line col rm = Rs.pre ts (lx (32 :: R) (line + lfs l) c' rm') := by
  intro n
  induction n with
  | zero =>
    intro l hl line col rm h
    obtain rfl : l = [] := List.eq_nil_of_length_eq_zero (by omega)
    exact ⟨[], col, col, rm, rfl, fun R => (pre_nil _).symm⟩
  | succ n ih =>
    intro l hl line col rm h
    cases l with
    | nil => exact ⟨[], col, col, rm, rfl, fun R => (pre_nil _).symm⟩
    | cons a r =>
      simp only [List.length_cons] at hl
      rw [lx_cons] at h
      by_cases h0 : pt (a :: r) = 0
      · rw [if_pos h0] at h; exact absurd h (by show ¬ (20 : Nat) = 0; omega)
      rw [if_neg h0] at h
      have ep := fun R => pt_app (32 :: R) h0
      by_cases h10 : a = 10
      · rw [if_pos h10] at h
        obtain ⟨ts, e2, c', rm', e3, e4⟩ := ih r (by omega) _ _ _ h
        have en : lfs (a :: r) = lfs r + 1 := by unfold lfs; rw [h10]; simp
        refine ⟨ts, e2, c', rm', ?_, fun R => ?_⟩
        · rw [lx_cons, if_neg h0, if_pos h10, e3, en, show line + 1 + lfs r = line + (lfs r + 1) by omega]
        · have e5 := ep R
          rw [List.cons_append] at e5
          rw [List.cons_append, lx_cons, if_neg (by rw [e5]; exact h0), if_pos h10, e4 R, en, show line + 1 + lfs r = line + (lfs r + 1) by omega]
      rw [if_neg h10] at h
      have en := pt_no10 h0 h10
      by_cases hb : (rm || isB a) = true
      · rw [if_pos hb] at h
        obtain ⟨ts, e2, c', rm', e3, e4⟩ := ih _ (by rw [List.length_drop]; omega) _ _ _ h
        refine ⟨ts, e2, c', rm', ?_, fun R => ?_⟩
        · rw [lx_cons, if_neg h0, if_neg h10, if_pos hb, e3, en]
        · have e5 := ep R
          have e6 := drop_app (32 :: R) h0
          rw [List.cons_append] at e5 e6
          rw [List.cons_append, lx_cons, if_neg (by rw [e5]; exact h0), if_neg h10, if_pos hb, e6, e4 R, en]
      rw [if_neg hb] at h
      by_cases ht : (tk (a :: r)).1 = 0
      · rw [if_neg (show ¬ ((tk (a :: r)).1 ≠ 0) by omega)] at h
        obtain ⟨h1, h2⟩ := pre_ok h
        obtain ⟨u, v, e, hu, hu1, hu2, _⟩ := tk_ok ht
        have hk := (tk_len ht)
        have hv : r.drop ((tk (a :: r)).2.2.1 - 1) = v := by
          rw [drop_cons (a := a) hk.1, ← hu, e, List.drop_left]
        rw [hv] at h1 h2
        have hvl : v.length ≤ n := by
          have := congrArg List.length e
          simp only [List.length_cons, List.length_append] at this
          omega
        obtain ⟨ts, e2, c', rm', e3, e4⟩ := ih v hvl _ _ _ h1
        have en2 : lfs (a :: r) = lfs v := by rw [e]; exact lfs_skip (fun b hb => (hu2 b hb).2)
        refine ⟨tkAt (a :: r) line col :: ts, e2, c', rm', ?_, fun R => ?_⟩
        · rw [lx_cons, if_neg h0, if_neg h10, if_neg hb, if_neg (show ¬ ((tk (a :: r)).1 ≠ 0) by omega), hv, h2, e3, en2]
          rfl
        · have e5 := ep R
          have e7 := tk_sep (a := a) (r := r) (R := 32 :: R) (.inr ⟨R, rfl⟩) ht
          have e8 : tkAt (a :: r ++ 32 :: R) line col = tkAt (a :: r) line col := by
            unfold tkAt
            rw [e7, List.take_append_of_le_length hk.2]
          rw [List.cons_append] at e5 e7 e8
          have e9 : (r ++ 32 :: R).drop ((tk (a :: r)).2.2.1 - 1) = v ++ 32 :: R := by
            have hk2 := hk.2
            simp only [List.length_cons] at hk2
            rw [List.drop_append_of_le_length (by omega), hv]
          rw [List.cons_append, lx_cons, if_neg (by rw [e5]; exact h0), if_neg h10, if_neg hb, e7, if_neg (show ¬ ((tk (a :: r)).1 ≠ 0) by omega), e8, e9, e4 R, pre_pre', en2]
          rfl
      · rw [if_pos ht] at h
        exact absurd h ht
/-- Two texts with a line between them, which has a remark. -/
theorem lex_lines {s : List UInt8} (h : (lx s 1 1 false).err = 0) : ∃ ts e, (lx s 1 1 false).toks = ts ++ [e] ∧ ∀ f note t, vdf f note →
    lx (s ++ 32 :: 35 :: (note ++ 10 :: t)) 1 1 false = Rs.pre ts ((lx t 1 1 false).shift (1 + lfs s)) := by
  obtain ⟨ts, e2, c', rm', e3, e4⟩ := lx_app s.length s (Nat.le_refl _) 1 1 false h
  refine ⟨ts, _, e3, fun f note t hv => ?_⟩
  rw [e4, lx_cons, if_neg (by rw [pt_ascii (by decide)]; omega), if_neg (by decide), if_pos (by rw [show isB 32 = true from rfl, Bool.or_true]), pt_ascii (by decide)]
  show Rs.pre ts (lx (35 :: (note ++ 10 :: t)) (1 + lfs s) (c' + 1) _) = _
  rw [lx_cons, if_neg (by rw [pt_ascii (by decide)]; omega), if_neg (by decide), if_pos (by rw [show isB 35 = true from rfl, Bool.or_true]), pt_ascii (by decide)]
  show Rs.pre ts (lx (note ++ 10 :: t) (1 + lfs s) (c' + 1 + 1) (_ || true)) = _
  rw [Bool.or_true, lx_rest f note hv, show 1 + lfs s + 1 = 1 + (1 + lfs s) by omega, lx_shift t.length t (Nat.le_refl _)]

/-! ### code points written out -/
theorem u8_nat (n : Nat) (h : n < 256) : (UInt8.ofNat n).toNat = n := by rw [UInt8.toNat_ofNat']; omega
set_option maxRecDepth 100000 in
theorem enc_pt {r : Int} (hv : Utf8.valid r = true) (h10 : r ≠ 10) : ∃ a u, (Utf8.encode r).data.toList = a :: u ∧ a ≠ 10 ∧ ∀ R, pt (a :: (u ++ R)) = (a :: u).length := by
  have hr : (0 ≤ r ∧ r < 0xD800) ∨ (0xE000 ≤ r ∧ r ≤ 0x10FFFF) := by
    unfold Utf8.valid at hv
    simpa only [Bool.or_eq_true, Bool.and_eq_true, decide_eq_true_eq] using hv
  obtain ⟨c, rfl⟩ := Int.eq_ofNat_of_zero_le (show 0 ≤ r by omega)
  have no10 : ∀ n, n < 256 → n ≠ 10 → UInt8.ofNat n ≠ 10 := by
    intro n hn h e
    have := congrArg UInt8.toNat e
    rw [u8_nat n hn] at this
    exact h this
  unfold Utf8.encode
  rw [if_pos hv]
  simp only [Int.toNat_natCast]
  by_cases h1 : c < 0x80
  · rw [if_pos h1]
    refine ⟨_, [], rfl, no10 c (by omega) (by omega), fun R => ?_⟩
    exact pt_ascii (by rw [u8_nat c (by omega)]; omega)
  rw [if_neg h1]
  have ok1 : ∀ (a b : UInt8) (R : List UInt8), okAt (a :: b :: R) a.toNat 1 = (decide (pLow a.toNat ≤ b.toNat) && decide (b.toNat ≤ pHigh a.toNat)) := fun a b R => rfl
  have ok2 : ∀ (a b c : UInt8) (R : List UInt8), okAt (a :: b :: c :: R) a.toNat 2 = (decide (128 ≤ c.toNat) && decide (c.toNat ≤ 191)) := fun a b c R => rfl
  have ok3 : ∀ (a b c d : UInt8) (R : List UInt8), okAt (a :: b :: c :: d :: R) a.toNat 3 = (decide (128 ≤ d.toNat) && decide (d.toNat ≤ 191)) := fun a b c d R => rfl
  have two : ∀ n lo hi : Nat, lo ≤ n → n ≤ hi → (decide (lo ≤ n) && decide (n ≤ hi)) = true := fun n lo hi h h' => by simp [h, h']
  by_cases h2 : c < 0x800
  · rw [if_pos h2]
    refine ⟨_, [_], rfl, no10 _ (by omega) (by omega), fun R => ?_⟩
    have el : pLead (UInt8.ofNat (0xC0 + c / 64)).toNat = 2 := by
      rw [u8_nat _ (by omega)]
      unfold pLead
      rw [if_neg (by omega), if_pos (by omega)]
    rw [List.cons_append, pt_of, el]
    · rfl
    · intro k k1 k2
      rw [el] at k2
      obtain rfl : k = 1 := by omega
      rw [ok1, u8_nat _ (by omega), u8_nat _ (by omega)]
      refine two _ _ _ ?_ ?_
      · unfold pLow
        repeat' split
        all_goals omega
      · unfold pHigh
        repeat' split
        all_goals omega
  rw [if_neg h2]
  by_cases h3 : c < 0x10000
  · rw [if_pos h3]
    refine ⟨_, [_, _], rfl, no10 _ (by omega) (by omega), fun R => ?_⟩
    have el : pLead (UInt8.ofNat (0xE0 + c / 4096)).toNat = 3 := by
      rw [u8_nat _ (by omega)]
      unfold pLead
      rw [if_neg (by omega), if_neg (by omega), if_pos (by omega)]
    rw [List.cons_append, List.cons_append, pt_of, el]
    · rfl
    · intro k k1 k2
      rw [el] at k2
      rcases (show k = 1 ∨ k = 2 by omega) with rfl | rfl
      · rw [ok1, u8_nat _ (by omega), u8_nat _ (by omega)]
        refine two _ _ _ ?_ ?_
        · unfold pLow
          repeat' split
          all_goals omega
        · unfold pHigh
          repeat' split
          all_goals omega
      · rw [ok2, u8_nat _ (by omega)]
        exact two _ _ _ (by omega) (by omega)
  rw [if_neg h3]
  refine ⟨_, [_, _, _], rfl, no10 _ (by omega) (by omega), fun R => ?_⟩
  have el : pLead (UInt8.ofNat (0xF0 + c / 262144)).toNat = 4 := by
    rw [u8_nat _ (by omega)]
    unfold pLead
    rw [if_neg (by omega), if_neg (by omega), if_neg (by omega), if_pos (by omega)]
  rw [List.cons_append, List.cons_append, List.cons_append, pt_of, el]
  · rfl
  · intro k k1 k2
    rw [el] at k2
    rcases (show k = 1 ∨ k = 2 ∨ k = 3 by omega) with rfl | rfl | rfl
    · rw [ok1, u8_nat _ (by omega), u8_nat _ (by omega)]
      refine two _ _ _ ?_ ?_
      · unfold pLow
        repeat' split
        all_goals omega
      · unfold pHigh
        repeat' split
        all_goals omega
    · rw [ok2, u8_nat _ (by omega)]
      exact two _ _ _ (by omega) (by omega)
    · rw [ok3, u8_nat _ (by omega)]
      exact two _ _ _ (by omega) (by omega)
theorem enc_bad {r : Int} (hv : ¬ (Utf8.valid r = true)) : Utf8.encode r = ⟨#[239, 191, 189]⟩ := by
  unfold Utf8.encode
  rw [if_neg hv]
  rfl
theorem lx_rune {r : Int} (hv : Utf8.valid r = true) (h10 : r ≠ 10) (R : List UInt8) (line col : Nat) : lx ((Utf8.encode r).data.toList ++ R) line col true = lx R line (col + 1) true := by
  obtain ⟨a, u, e, ha, hp⟩ := enc_pt hv h10
  rw [e, List.cons_append, lx_cons, hp R, if_neg (by simp), if_neg ha, if_pos (by simp)]
  rw [List.length_cons, Nat.add_sub_cancel, List.drop_left]
  rfl
end Go.Proofs.YtbadingdklenhaaGreatDoor
