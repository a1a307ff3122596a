/-
  Tokens joined, and lexed again; texts put together (layer 8), over lists of bytes.
-/
import Derived.Test.YtbadingdklenhaaGreatDoorLexRun
namespace Go.Proofs.YtbadingdklenhaaGreatDoor
open Go

/-- P8.2: the tokens' texts, with a blank between each two; an End's is left out. -/
def jnf : List UInt8 → List Tk → List UInt8
  | _, [] => []
  | b, x :: r => if x.kind = 3 then jnf b r else b ++ x.text ++ jnf [32] r
/-- The document's own way. -/
def rjn : List UInt8 → List Tk → List UInt8
  | acc, [] => acc
  | acc, x :: r => if x.kind = 3 then rjn acc r else rjn ((if acc = [] then [] else acc ++ [32]) ++ x.text) r
theorem rjn_jnf : ∀ (l : List Tk) (acc : List UInt8), (∀ x ∈ l, x.kind ≠ 3 → x.text ≠ []) → rjn acc l = acc ++ jnf (if acc = [] then [] else [32]) l
  | [], acc, _ => by simp [rjn, jnf]
  | x :: r, acc, h => by
    unfold rjn jnf
    by_cases hk : x.kind = 3
    · rw [if_pos hk, if_pos hk]
      exact rjn_jnf r acc (fun y hy => h y (List.mem_cons_of_mem _ hy))
    · rw [if_neg hk, if_neg hk, rjn_jnf r _ (fun y hy => h y (List.mem_cons_of_mem _ hy))]
      have hx := h x (List.mem_cons_self ..) hk
      by_cases ha : acc = []
      · rw [if_pos ha, if_pos ha, ha, List.nil_append, if_neg hx]
        simp
      · rw [if_neg ha, if_neg ha, if_neg (by simp)]
        simp

/-! ### a token by itself -/
/-- What may stand behind a token in a text of joined tokens. -/
def Sep (R : List UInt8) : Prop := R = [] ∨ ∃ t, R = 32 :: t
theorem takeWhile_sep {r R : List UInt8} (h : Sep R) : (r ++ R).takeWhile isA = r.takeWhile isA := by
  induction r with
  | nil =>
    rcases h with rfl | ⟨t, rfl⟩
    · rfl
    · rfl
  | cons a r ih =>
    rw [List.cons_append, List.takeWhile_cons, List.takeWhile_cons, ih]
theorem wd_sep {a : UInt8} {r R : List UInt8} (h : Sep R) : wd (a :: r ++ R) = wd (a :: r) := by
  show a :: (r ++ R).takeWhile isA = a :: r.takeWhile isA
  rw [takeWhile_sep h]
theorem begins_app {a : UInt8} {r : List UInt8} (R : List UInt8) (h : begins a r = true) : begins a (r ++ R) = true := by
  unfold begins at h ⊢
  cases r with
  | nil =>
    simp only [Bool.and_false, Bool.or_false] at h
    rw [h]
    simp
  | cons b r => exact h
theorem tk_sep {a : UInt8} {r R : List UInt8} (hR : Sep R) (h : (tk (a :: r)).1 = 0) : tk (a :: r ++ R) = tk (a :: r) := by
  unfold tk at h ⊢
  simp only [List.cons_append] at h ⊢
  by_cases h1 : a = 58
  · rw [if_pos h1, if_pos h1]
  · rw [if_neg h1] at h ⊢
    rw [if_neg h1]
    by_cases h2 : begins a r = true
    · rw [if_pos (begins_app R h2), if_pos h2]
      have e := wd_sep (a := a) (r := r) hR
      rw [List.cons_append] at e
      rw [e]
    · rw [if_neg h2] at h
      cases h
theorem takeWhile_twice (p : UInt8 → Bool) : ∀ (r : List UInt8), (r.takeWhile p).takeWhile p = r.takeWhile p
  | [] => rfl
  | a :: r => by
    rw [List.takeWhile_cons]
    by_cases h : p a = true
    · rw [if_pos h, List.takeWhile_cons, if_pos h, takeWhile_twice p r]
    · rw [if_neg h]; rfl
/-- A token's text is lexed as that token. -/
theorem tk_self {a : UInt8} {r : List UInt8} (h : (tk (a :: r)).1 = 0) : ∃ b u, (a :: r).take (tk (a :: r)).2.2.1 = b :: u ∧ tk (b :: u) = tk (a :: r) ∧ (tk (a :: r)).2.2.1 = (b :: u).length ∧ (tk (a :: r)).2.1 ≠ 3 ∧ b ≠ 10 ∧ b.toNat < 128 ∧ isB b = false := by
  obtain ⟨u, v, e, hu, h1, h2, h3⟩ := tk_ok h
  cases u with
  | nil => simp at h1
  | cons b u =>
    have hb := h2 b (List.mem_cons_self ..)
    have ea : a = b := by injection e
    have et : (a :: r).take (tk (a :: r)).2.2.1 = b :: u := by
      rw [← hu]
      conv => lhs; rw [e]
      exact List.take_left
    have hk3 : ∀ w, (rd w).2.1 ≠ 3 := by
      intro w
      unfold rd
      repeat' split
      all_goals simp
    refine ⟨b, u, et, ?_, hu.symm, ?_, hb.2, hb.1, ?_⟩
    · rcases h3 with h3 | ⟨h3, h4⟩
      · injection h3 with h5 h6
        subst ea h5 h6
        unfold tk
        simp
      · injection h3 with h5 h6
        have hn : a ≠ 58 := by
          rintro rfl
          unfold begins at h4
          simp [show isA 58 = false from rfl] at h4
        have hw : wd (b :: u) = wd (a :: r) := by
          rw [h5, h6]
          show a :: (r.takeWhile isA).takeWhile isA = a :: r.takeWhile isA
          rw [takeWhile_twice]
        have hbg : begins b u = true := by
          rw [h5, h6]
          unfold begins at h4 ⊢
          cases r with
          | nil => exact h4
          | cons c r =>
            simp only [Bool.or_eq_true, Bool.and_eq_true] at h4
            rcases h4 with h4 | ⟨h4, h7⟩
            · rw [h4]; simp
            · have h8 : isA c = true := by unfold isA; rw [h7]; simp
              rw [List.takeWhile_cons, if_pos h8, h4]
              simp only [h7]
              simp
        unfold tk
        simp only
        rw [if_neg hn, if_pos h4, if_neg (by rw [← ea]; exact hn), if_pos hbg, hw]
    · unfold tk
      simp only
      repeat' split
      · simp
      · exact hk3 _
      · simp
    · rcases h3 with h3 | ⟨h3, h4⟩
      · injection h3 with h5 h6
        rw [h5]; rfl
      · rw [← ea]
        have hA : isA a = true ∨ a = 45 := by
          unfold begins at h4
          simp only [Bool.or_eq_true, Bool.and_eq_true, beq_iff_eq] at h4
          rcases h4 with h4 | h4
          · exact .inl h4
          · exact .inr h4.1
        unfold isB
        rcases hA with hA | rfl
        · unfold isA isL isD at hA
          simp only [Bool.or_eq_true, Bool.and_eq_true, decide_eq_true_eq] at hA
          simp only [Bool.or_eq_false_iff, beq_eq_false_iff_ne]
          refine ⟨⟨⟨?_, ?_⟩, ?_⟩, ?_⟩
          all_goals
            rintro rfl
            simp at hA
        · rfl
/-- A token that may stand anywhere: it is lexed as it is. -/
def GoodT (x : Tk) : Prop := x.kind ≠ 3 ∧ x.text ≠ [] ∧ ∀ R line col, Sep R → lx (x.text ++ R) line col false = Rs.pre [⟨x.kind, x.text, x.n, line, col⟩] (lx R line (col + x.text.length) false)
theorem good_tkAt {a : UInt8} {r : List UInt8} (h : (tk (a :: r)).1 = 0) (l0 c0 : Nat) : GoodT (tkAt (a :: r) l0 c0) := by
  obtain ⟨b, u, e1, e2, e3, e4, e5, e6, e7⟩ := tk_self h
  have ht : (tkAt (a :: r) l0 c0).text = b :: u := e1
  refine ⟨e4, by rw [ht]; simp, ?_⟩
  intro R line col hR
  rw [ht]
  have h0 : (tk (b :: u)).1 = 0 := by rw [e2]; exact h
  have hs := tk_sep hR h0
  have hs' : tk (b :: (u ++ R)) = tk (b :: u) := hs
  rw [List.cons_append, lx_cons, if_neg (by rw [pt_ascii e6]; omega), if_neg e5, if_neg (by rw [e7]; simp), hs', e2, if_neg (by omega)]
  have hd : (u ++ R).drop ((tk (a :: r)).2.2.1 - 1) = R := by
    rw [e3, List.length_cons, Nat.add_sub_cancel, List.drop_left]
  have hX : tkAt (b :: (u ++ R)) line col = ⟨(tkAt (a :: r) l0 c0).kind, b :: u, (tkAt (a :: r) l0 c0).n, line, col⟩ := by
    unfold tkAt
    rw [hs', e2, e3]
    simp
  rw [hd, hX, e3]

/-! ### what Lex tells where it does not fail -/
theorem pre_ok {ts : List Tk} {r : Rs} (h : (Rs.pre ts r).err = 0) : r.err = 0 ∧ (Rs.pre ts r).toks = ts ++ r.toks := by
  unfold Rs.pre at h ⊢
  by_cases he : r.err = 0
  · rw [if_pos he]
    exact ⟨he, rfl⟩
  · rw [if_neg he] at h
    exact absurd h he
def isEnd (x : Tk) : Prop := x.kind = 3 ∧ x.text = [] ∧ x.n = 0
theorem lx_good : ∀ (n : Nat) (l : List UInt8), l.length ≤ n → ∀ line col rm, (lx l line col rm).err = 0 → ∃ ts e, (lx l line col rm).toks = ts ++ [e] ∧ (∀ x ∈ ts, GoodT x) ∧ isEnd e ∧ (lx l line col rm).line = 0 ∧ (lx l line col rm).col = 0 := by
  intro n
  induction n with
  | zero =>
    intro l hl line col rm h
    obtain rfl : l = [] := List.eq_nil_of_length_eq_zero (by omega)
    exact ⟨[], ⟨3, [], 0, line, col⟩, rfl, (fun _ hx => absurd hx List.not_mem_nil), ⟨rfl, rfl, rfl⟩, rfl, rfl⟩
  | succ n ih =>
    intro l hl line col rm h
    cases l with
    | nil => exact ⟨[], ⟨3, [], 0, line, col⟩, rfl, (fun _ hx => absurd hx List.not_mem_nil), ⟨rfl, rfl, rfl⟩, rfl, rfl⟩
    | cons a r =>
      simp only [List.length_cons] at hl
      rw [lx_cons] at h ⊢
      by_cases h0 : pt (a :: r) = 0
      · rw [if_pos h0] at h; exact absurd h (by show ¬ (20 : Nat) = 0; omega)
      rw [if_neg h0] at h ⊢
      by_cases h10 : a = 10
      · rw [if_pos h10] at h ⊢
        exact ih r (by omega) _ _ _ h
      rw [if_neg h10] at h ⊢
      by_cases hb : (rm || isB a) = true
      · rw [if_pos hb] at h ⊢
        exact ih _ (by rw [List.length_drop]; omega) _ _ _ h
      rw [if_neg hb] at h ⊢
      by_cases ht : (tk (a :: r)).1 = 0
      · rw [if_neg (by omega)] at h ⊢
        obtain ⟨h1, h2⟩ := pre_ok h
        obtain ⟨ts, e, e1, e2, e3, e4, e5⟩ := ih _ (by rw [List.length_drop]; omega) _ _ _ h1
        refine ⟨tkAt (a :: r) line col :: ts, e, ?_, ?_, e3, ?_, ?_⟩
        · rw [h2, e1]; rfl
        · intro x hx
          rcases List.mem_cons.1 hx with rfl | hx
          · exact good_tkAt ht line col
          · exact e2 x hx
        · unfold Rs.pre; rw [if_pos h1]; exact e4
        · unfold Rs.pre; rw [if_pos h1]; exact e5
      · rw [if_pos ht] at h
        exact absurd h ht
theorem lx_bads : ∀ (n : Nat) (l : List UInt8), l.length ≤ n → ∀ line col rm, (lx l line col rm).err ≠ 0 → (lx l line col rm).toks = [] := by
  intro n
  induction n with
  | zero =>
    intro l hl line col rm h
    obtain rfl : l = [] := List.eq_nil_of_length_eq_zero (by omega)
    exact absurd rfl h
  | succ n ih =>
    intro l hl line col rm h
    cases l with
    | nil => exact absurd rfl h
    | cons a r =>
      simp only [List.length_cons] at hl
      rw [lx_cons] at h ⊢
      by_cases h0 : pt (a :: r) = 0
      · rw [if_pos h0]; rfl
      rw [if_neg h0] at h ⊢
      by_cases h10 : a = 10
      · rw [if_pos h10] at h ⊢
        exact ih r (by omega) _ _ _ h
      rw [if_neg h10] at h ⊢
      by_cases hb : (rm || isB a) = true
      · rw [if_pos hb] at h ⊢
        exact ih _ (by rw [List.length_drop]; omega) _ _ _ h
      rw [if_neg hb] at h ⊢
      by_cases ht : (tk (a :: r)).1 = 0
      · rw [if_neg (by omega)] at h ⊢
        by_cases he : (lx (r.drop ((tk (a :: r)).2.2.1 - 1)) line (col + (tk (a :: r)).2.2.1) false).err = 0
        · unfold Rs.pre at h
          rw [if_pos he] at h
          exact absurd he h
        · unfold Rs.pre
          rw [if_neg he]
          exact ih _ (by rw [List.length_drop]; omega) _ _ _ he
      · rw [if_pos ht]; rfl

/-! ### P8.2: the tokens of what is joined -/
def bare (x : Tk) : Nat × List UInt8 × Int := (x.kind, x.text, x.n)
theorem lx_space (R : List UInt8) (line col : Nat) : lx (32 :: R) line col false = lx R line (col + 1) false := by
  rw [lx_cons, if_neg (by rw [pt_ascii (by decide)]; omega), if_neg (by decide), if_pos (show (false || isB 32) = true from rfl), pt_ascii (by decide)]
  rfl
theorem jnf_sep (ts : List Tk) (e : Tk) (h : ∀ x ∈ ts, GoodT x) (he : isEnd e) : Sep (jnf [32] (ts ++ [e])) := by
  cases ts with
  | nil =>
    left
    show (if e.kind = 3 then jnf [32] [] else _) = []
    rw [if_pos he.1]; rfl
  | cons x r =>
    right
    have hx := (h x (List.mem_cons_self ..)).1
    refine ⟨x.text ++ jnf [32] (r ++ [e]), ?_⟩
    show (if x.kind = 3 then _ else _) = _
    rw [if_neg hx]
    simp
theorem lex_joined : ∀ (ts : List Tk) (e : Tk), (∀ x ∈ ts, GoodT x) → isEnd e → ∀ line col,
    ((lx (jnf [] (ts ++ [e])) line col false).err = 0 ∧ (lx (jnf [] (ts ++ [e])) line col false).toks.map bare = (ts ++ [e]).map bare ∧ (lx (jnf [] (ts ++ [e])) line col false).line = 0 ∧ (lx (jnf [] (ts ++ [e])) line col false).col = 0) ∧
    ((lx (jnf [32] (ts ++ [e])) line col false).err = 0 ∧ (lx (jnf [32] (ts ++ [e])) line col false).toks.map bare = (ts ++ [e]).map bare ∧ (lx (jnf [32] (ts ++ [e])) line col false).line = 0 ∧ (lx (jnf [32] (ts ++ [e])) line col false).col = 0)
  | [], e, _, he, line, col => by
    have h1 : ∀ b, jnf b ([] ++ [e]) = [] := by
      intro b
      show (if e.kind = 3 then jnf b [] else _) = []
      rw [if_pos he.1]; rfl
    rw [h1, h1, lx_nil]
    have h2 : (Rs.fin line col).toks.map bare = ([] ++ [e]).map bare := by
      show [((3 : Nat), ([] : List UInt8), (0 : Int))] = [(e.kind, e.text, e.n)]
      rw [he.1, he.2.1, he.2.2]
    exact ⟨⟨rfl, h2, rfl, rfl⟩, rfl, h2, rfl, rfl⟩
  | x :: r, e, h, he, line, col => by
    obtain ⟨hx1, hx2, hx3⟩ := h x (List.mem_cons_self ..)
    have hr := fun y hy => h y (List.mem_cons_of_mem _ hy)
    have key : ∀ line col, ((lx (x.text ++ jnf [32] (r ++ [e])) line col false).err = 0 ∧ (lx (x.text ++ jnf [32] (r ++ [e])) line col false).toks.map bare = (x :: r ++ [e]).map bare ∧ (lx (x.text ++ jnf [32] (r ++ [e])) line col false).line = 0 ∧ (lx (x.text ++ jnf [32] (r ++ [e])) line col false).col = 0) := by
      intro line col
      rw [hx3 _ line col (jnf_sep r e hr he)]
      obtain ⟨_, h4, h5, h6, h7⟩ := lex_joined r e hr he line (col + x.text.length)
      unfold Rs.pre
      rw [if_pos h4]
      refine ⟨h4, ?_, h6, h7⟩
      rw [show (x :: r ++ [e]).map bare = bare x :: (r ++ [e]).map bare from rfl, ← h5]
      rfl
    have e1 : jnf [] (x :: r ++ [e]) = x.text ++ jnf [32] (r ++ [e]) := by
      show (if x.kind = 3 then _ else _) = _
      rw [if_neg hx1]; rfl
    have e2 : jnf [32] (x :: r ++ [e]) = 32 :: (x.text ++ jnf [32] (r ++ [e])) := by
      show (if x.kind = 3 then _ else _) = _
      rw [if_neg hx1]; simp
    rw [e1, e2, lx_space]
    exact ⟨key line col, key line (col + 1)⟩
end Go.Proofs.YtbadingdklenhaaGreatDoor
