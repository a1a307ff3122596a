/-
  A text's tokens, as the document has them (lx), and as the program goes through a text (pl): the same.
-/
import Derived.Test.YtbadingdklenhaaGreatDoorLexMath
namespace Go.Proofs.YtbadingdklenhaaGreatDoor
open Go

/-- A piece of a text. -/
structure Tk where
  kind : Nat
  text : List UInt8
  n : Int
  line : Nat
  col : Nat
/-- What Lex tells: the tokens, a place, an error. -/
structure Rs where
  toks : List Tk
  line : Nat
  col : Nat
  err : Nat
def Rs.bad (line col e : Nat) : Rs := ⟨[], line, col, e⟩
def Rs.fin (line col : Nat) : Rs := ⟨[⟨3, [], 0, line, col⟩], 0, 0, 0⟩
def Rs.pre (ts : List Tk) (r : Rs) : Rs := if r.err = 0 then { r with toks := ts ++ r.toks } else r

def dv (l : List UInt8) : Nat := l.foldl (fun n b => 10 * n + (b.toNat - 48)) 0
def unsg (w : List UInt8) : List UInt8 := Lib.trimPrefix w [45]
def valW (w : List UInt8) : Int := if Lib.hasPrefix w [45] = true then -(dv (unsg w) : Int) else dv w
/-- The token of a run: an error, a kind, a number. -/
def rd (w : List UInt8) : Nat × Nat × Int :=
  if w.all isL = true then (if w.length ≤ 32 then (0, 0, 0) else (21, 0, 0))
  else if (unsg w).all isD = true then (if -9223372036854775808 ≤ valW w ∧ valW w ≤ 9223372036854775807 then (0, 1, valW w) else (5, 0, 0))
  else (21, 0, 0)
def wd (l : List UInt8) : List UInt8 := match l with
  | [] => []
  | a :: r => a :: r.takeWhile isA
def begins (a : UInt8) (r : List UInt8) : Bool := isA a || (a == 45 && (match r with
  | [] => false
  | b :: _ => isD b))
/-- The token with which a text begins: an error, a kind, how many bytes, a number. -/
def tk (l : List UInt8) : Nat × Nat × Nat × Int := match l with
  | [] => (20, 0, 0, 0)
  | a :: r => if a = 58 then (0, 2, 1, 0) else if begins a r = true then ((rd (wd (a :: r))).1, (rd (wd (a :: r))).2.1, (wd (a :: r)).length, (rd (wd (a :: r))).2.2) else (20, 0, 0, 0)
def isB (a : UInt8) : Bool := a == 32 || a == 9 || a == 13 || a == 35

def tkAt (l : List UInt8) (line col : Nat) : Tk := ⟨(tk l).2.1, l.take (tk l).2.2.1, (tk l).2.2.2, line, col⟩

def lxf : Nat → List UInt8 → Nat → Nat → Bool → Rs
  | 0, _, line, col, _ => Rs.fin line col
  | _ + 1, [], line, col, _ => Rs.fin line col
  | f + 1, a :: r, line, col, rm =>
    if pt (a :: r) = 0 then Rs.bad line col 20
    else if a = 10 then lxf f r (line + 1) 1 false
    else if (rm || isB a) = true then lxf f (r.drop (pt (a :: r) - 1)) line (col + 1) (rm || a == 35)
    else if (tk (a :: r)).1 ≠ 0 then Rs.bad line col (tk (a :: r)).1
    else Rs.pre [tkAt (a :: r) line col] (lxf f (r.drop ((tk (a :: r)).2.2.1 - 1)) line (col + (tk (a :: r)).2.2.1) false)
theorem lxf_more : ∀ (f g : Nat) (l : List UInt8) (line col : Nat) (rm : Bool), l.length ≤ f → l.length ≤ g → lxf f l line col rm = lxf g l line col rm := by
  intro f
  induction f with
  | zero =>
    intro g l line col rm h1 h2
    obtain rfl : l = [] := List.eq_nil_of_length_eq_zero (by omega)
    cases g <;> rfl
  | succ f ih =>
    intro g l line col rm h1 h2
    cases l with
    | nil => cases g <;> rfl
    | cons a r =>
      cases g with
      | zero => simp at h2
      | succ g =>
        simp only [List.length_cons] at h1 h2
        unfold lxf
        rw [ih g r (line + 1) 1 false (by omega) (by omega)]
        rw [ih g (r.drop (pt (a :: r) - 1)) line (col + 1) (rm || a == 35) (by rw [List.length_drop]; omega) (by rw [List.length_drop]; omega)]
        rw [ih g (r.drop ((tk (a :: r)).2.2.1 - 1)) line (col + (tk (a :: r)).2.2.1) false (by rw [List.length_drop]; omega) (by rw [List.length_drop]; omega)]
/-- The document's answer from a place on; within a remark or not. -/
def lx (l : List UInt8) (line col : Nat) (rm : Bool) : Rs := lxf l.length l line col rm
theorem lx_nil (line col : Nat) (rm : Bool) : lx [] line col rm = Rs.fin line col := rfl
theorem lx_cons (a : UInt8) (r : List UInt8) (line col : Nat) (rm : Bool) : lx (a :: r) line col rm =
    if pt (a :: r) = 0 then Rs.bad line col 20
    else if a = 10 then lx r (line + 1) 1 false
    else if (rm || isB a) = true then lx (r.drop (pt (a :: r) - 1)) line (col + 1) (rm || a == 35)
    else if (tk (a :: r)).1 ≠ 0 then Rs.bad line col (tk (a :: r)).1
    else Rs.pre [tkAt (a :: r) line col] (lx (r.drop ((tk (a :: r)).2.2.1 - 1)) line (col + (tk (a :: r)).2.2.1) false) := by
  unfold lx
  show lxf (r.length + 1) (a :: r) line col rm = _
  rw [lxf]
  rw [lxf_more r.length (r.drop (pt (a :: r) - 1)).length (r.drop (pt (a :: r) - 1)) line (col + 1) (rm || a == 35) (by rw [List.length_drop]; omega) (by omega)]
  rw [lxf_more r.length (r.drop ((tk (a :: r)).2.2.1 - 1)).length (r.drop ((tk (a :: r)).2.2.1 - 1)) line (col + (tk (a :: r)).2.2.1) false (by rw [List.length_drop]; omega) (by omega)]
/-- P8.1. -/
def lexP (l : List UInt8) : Rs := if 1048576 < l.length then Rs.bad 1 1 7 else lx l 1 1 false

/-! ### The program's way -/

def psd (l : List UInt8) : Nat := match l with
  | [] => 0
  | a :: r => if (a == 32 || a == 9 || a == 13 || a == 10) = true then 1 else if a = 35 then ((a :: r).takeWhile (· != 10)).length else 0
def bl (a : UInt8) (line : Nat) : Nat := if a = 10 then line + 1 else line
def bc (a : UInt8) (col : Nat) : Nat := if a = 10 then 1 else col + 1
def plf : Nat → List UInt8 → Int → Nat → Nat → Rs
  | 0, _, _, line, col => Rs.fin line col
  | _ + 1, [], _, line, col => Rs.fin line col
  | f + 1, a :: r, k, line, col =>
    if pt (a :: r) = 0 then Rs.bad line col 20
    else if k = 0 then
      (if psd (a :: r) ≠ 0 then plf f (r.drop (pt (a :: r) - 1)) ((psd (a :: r) : Int) - pt (a :: r)) (bl a line) (bc a col)
       else if (tk (a :: r)).1 ≠ 0 then Rs.bad line col (tk (a :: r)).1
       else Rs.pre [tkAt (a :: r) line col] (plf f (r.drop (pt (a :: r) - 1)) (((tk (a :: r)).2.2.1 : Int) - pt (a :: r)) (bl a line) (bc a col)))
    else plf f (r.drop (pt (a :: r) - 1)) (k - pt (a :: r)) (bl a line) (bc a col)
theorem plf_more : ∀ (f g : Nat) (l : List UInt8) (k : Int) (line col : Nat), l.length ≤ f → l.length ≤ g → plf f l k line col = plf g l k line col := by
  intro f
  induction f with
  | zero =>
    intro g l k line col h1 h2
    obtain rfl : l = [] := List.eq_nil_of_length_eq_zero (by omega)
    cases g <;> rfl
  | succ f ih =>
    intro g l k line col h1 h2
    cases l with
    | nil => cases g <;> rfl
    | cons a r =>
      cases g with
      | zero => simp at h2
      | succ g =>
        simp only [List.length_cons] at h1 h2
        have e := fun k => ih g (r.drop (pt (a :: r) - 1)) k (bl a line) (bc a col) (by rw [List.length_drop]; omega) (by rw [List.length_drop]; omega)
        unfold plf
        rw [e, e, e]
def pl (l : List UInt8) (k : Int) (line col : Nat) : Rs := plf l.length l k line col
theorem pl_nil (k : Int) (line col : Nat) : pl [] k line col = Rs.fin line col := rfl
theorem pl_cons (a : UInt8) (r : List UInt8) (k : Int) (line col : Nat) : pl (a :: r) k line col =
    if pt (a :: r) = 0 then Rs.bad line col 20
    else if k = 0 then
      (if psd (a :: r) ≠ 0 then pl (r.drop (pt (a :: r) - 1)) ((psd (a :: r) : Int) - pt (a :: r)) (bl a line) (bc a col)
       else if (tk (a :: r)).1 ≠ 0 then Rs.bad line col (tk (a :: r)).1
       else Rs.pre [tkAt (a :: r) line col] (pl (r.drop (pt (a :: r) - 1)) (((tk (a :: r)).2.2.1 : Int) - pt (a :: r)) (bl a line) (bc a col)))
    else pl (r.drop (pt (a :: r) - 1)) (k - pt (a :: r)) (bl a line) (bc a col) := by
  unfold pl
  show plf (r.length + 1) (a :: r) k line col = _
  rw [plf]
  have e := fun k => plf_more r.length (r.drop (pt (a :: r) - 1)).length (r.drop (pt (a :: r) - 1)) k (bl a line) (bc a col) (by rw [List.length_drop]; omega) (by omega)
  rw [e, e, e]

/-! ### Tokens -/

theorem rd_err (w : List UInt8) : (rd w).1 = 0 ∨ (rd w).1 = 21 ∨ (rd w).1 = 5 := by
  unfold rd
  repeat' split
  all_goals simp
theorem wd_pre (l : List UInt8) : ∃ t, l = wd l ++ t := by
  cases l with
  | nil => exact ⟨[], rfl⟩
  | cons a r => exact ⟨r.dropWhile isA, by show _ = a :: (r.takeWhile isA ++ _); rw [List.takeWhile_append_dropWhile]⟩
theorem isA_low {b : UInt8} (h : isA b = true) : b.toNat < 128 ∧ b ≠ 10 ∧ b ≠ 32 ∧ b ≠ 45 := by
  unfold isA isL isD at h
  simp only [Bool.or_eq_true, Bool.and_eq_true, decide_eq_true_eq] at h
  refine ⟨by omega, ?_, ?_, ?_⟩
  all_goals
    intro e
    rw [e] at h
    simp at h
/-- The bytes of a token: at least one, none of them beyond 127, none a line feed. -/
theorem tk_ok {a : UInt8} {r : List UInt8} (h : (tk (a :: r)).1 = 0) :
    ∃ u v, a :: r = u ++ v ∧ u.length = (tk (a :: r)).2.2.1 ∧ 1 ≤ u.length ∧ (∀ b ∈ u, b.toNat < 128 ∧ b ≠ 10) ∧ (u = [58] ∨ (u = wd (a :: r) ∧ begins a r = true)) := by
  unfold tk at h ⊢
  simp only at h ⊢
  by_cases h1 : a = 58
  · rw [if_pos h1]
    refine ⟨[a], r, rfl, rfl, by simp, ?_, .inl (by rw [h1])⟩
    intro b hb
    rw [List.mem_singleton.1 hb, h1]
    decide
  · rw [if_neg h1] at h ⊢
    by_cases h2 : begins a r = true
    · rw [if_pos h2]
      obtain ⟨t, ht⟩ := wd_pre (a :: r)
      refine ⟨wd (a :: r), t, ht, rfl, by simp [wd], ?_, .inr ⟨rfl, h2⟩⟩
      intro b hb
      have hb' : b = a ∨ b ∈ r.takeWhile isA := by simpa [wd] using hb
      rcases hb' with rfl | hb'
      · unfold begins at h2
        simp only [Bool.or_eq_true, Bool.and_eq_true, beq_iff_eq] at h2
        rcases h2 with h2 | ⟨h2, _⟩
        · exact ⟨(isA_low h2).1, (isA_low h2).2.1⟩
        · rw [h2]; decide
      · have h3 : isA b = true := by
          have := List.all_takeWhile (l := r) (p := isA)
          exact List.all_eq_true.1 this b hb'
        exact ⟨(isA_low h3).1, (isA_low h3).2.1⟩
    · rw [if_neg h2] at h
      cases h
theorem tk_len {a : UInt8} {r : List UInt8} (h : (tk (a :: r)).1 = 0) : 1 ≤ (tk (a :: r)).2.2.1 ∧ (tk (a :: r)).2.2.1 ≤ (a :: r).length := by
  obtain ⟨u, v, e, hu, h1, _⟩ := tk_ok h
  rw [← hu, e, List.length_append]
  omega
theorem tk_err (l : List UInt8) : (tk l).1 = 0 ∨ (tk l).1 = 20 ∨ (tk l).1 = 21 ∨ (tk l).1 = 5 := by
  unfold tk
  split
  · simp
  · split
    · simp
    · split
      · rename_i a r _ _
        rcases rd_err (wd (a :: r)) with h | h | h <;> simp [h]
      · simp

theorem drop_cons {a : UInt8} {r : List UInt8} {k : Nat} (h : 1 ≤ k) : r.drop (k - 1) = (a :: r).drop k := by
  cases k with
  | zero => omega
  | succ k => rfl

/-! ### Both ways come to the same -/

theorem ascii_step {a : UInt8} {r : List UInt8} (h : a.toNat < 128) (k : Int) (hk : k ≠ 0) (ha : a ≠ 10) (line col : Nat) : pl (a :: r) k line col = pl r (k - 1) line (col + 1) := by
  have e := pt_ascii (r := r) h
  rw [pl_cons, e, if_neg (by omega), if_neg hk]
  unfold bl bc
  rw [if_neg ha, if_neg ha]
  rfl
theorem pl_through : ∀ (u v : List UInt8) (line col : Nat), (∀ b ∈ u, b.toNat < 128 ∧ b ≠ 10) → pl (u ++ v) u.length line col = pl v 0 line (col + u.length)
  | [], v, line, col, _ => rfl
  | a :: u, v, line, col, h => by
    have ha := h a (List.mem_cons_self ..)
    rw [List.cons_append, ascii_step ha.1 _ (by simp only [List.length_cons]; omega) ha.2, show ((((a :: u).length : Nat) : Int) - 1) = (u.length : Int) by simp only [List.length_cons]; omega, pl_through u v line (col + 1) (fun b hb => h b (List.mem_cons_of_mem _ hb))]
    congr 1
    simp only [List.length_cons]
    omega
theorem remark_len {a : UInt8} {r : List UInt8} (h : pt (a :: r) ≠ 0) (ha : a ≠ 10) :
    ((a :: r).takeWhile (· != 10)).length = pt (a :: r) + ((r.drop (pt (a :: r) - 1)).takeWhile (· != 10)).length := by
  obtain ⟨h1, h2⟩ := pt_bytes h
  have hp : 1 ≤ pt (a :: r) := by omega
  rw [drop_cons (a := a) hp]
  have hall : ((a :: r).take (pt (a :: r))).all (· != 10) = true := by
    refine List.all_eq_true.2 fun b hb => ?_
    obtain ⟨k, hk⟩ := List.getElem?_of_mem hb
    rw [List.getElem?_take] at hk
    split at hk
    · rename_i hlt
      rcases Nat.eq_zero_or_pos k with h0 | h0
      · subst h0
        have : a = b := by simpa using hk
        rw [← this]
        simpa using ha
      · obtain ⟨c, hc, h3⟩ := h2 k h0 hlt
        rw [hc] at hk
        have : c = b := Option.some.inj hk
        rw [← this]
        have h4 : c ≠ 10 := by intro e; rw [e] at h3; simp at h3
        simpa using h4
    · cases hk
  conv => lhs; rw [← List.take_append_drop (pt (a :: r)) (a :: r)]
  rw [List.takeWhile_append_of_pos (fun b hb => List.all_eq_true.1 hall b hb), List.length_append, List.length_take, Nat.min_eq_left h1]

theorem pl_lx : ∀ (n : Nat) (l : List UInt8), l.length ≤ n → ∀ line col, (pl l 0 line col = lx l line col false) ∧ (pl l ((l.takeWhile (· != 10)).length : Nat) line col = lx l line col true) := by
  intro n
  induction n with
  | zero =>
    intro l hl line col
    obtain rfl : l = [] := List.eq_nil_of_length_eq_zero (by omega)
    exact ⟨rfl, rfl⟩
  | succ n ih =>
    intro l hl line col
    cases l with
    | nil => exact ⟨rfl, rfl⟩
    | cons a r =>
      simp only [List.length_cons] at hl
      by_cases h0 : pt (a :: r) = 0
      · rw [pl_cons, pl_cons, lx_cons, lx_cons, if_pos h0, if_pos h0, if_pos h0, if_pos h0]
        exact ⟨rfl, rfl⟩
      by_cases h10 : a = 10
      · have e1 : pt (a :: r) = 1 := pt_ascii (by rw [h10]; decide)
        have e2 : ((a :: r).takeWhile (· != 10)).length = 0 := by rw [h10]; rfl
        have e3 : psd (a :: r) = 1 := by rw [h10]; rfl
        have e4 : pl (a :: r) 0 line col = lx r (line + 1) 1 false := by
          rw [pl_cons, if_neg h0, if_pos rfl, e3, if_pos (by omega), e1]
          unfold bl bc
          rw [if_pos h10, if_pos h10]
          exact (ih r (by omega) (line + 1) 1).1
        have e5 : ∀ rm, lx (a :: r) line col rm = lx r (line + 1) 1 false := by
          intro rm
          rw [lx_cons, if_neg h0, if_pos h10]
        rw [e2, e5, e5]
        exact ⟨e4, e4⟩
      have hb : bl a line = line ∧ bc a col = col + 1 := by unfold bl bc; rw [if_neg h10, if_neg h10]; exact ⟨rfl, rfl⟩
      have hd : (r.drop (pt (a :: r) - 1)).length ≤ n := by rw [List.length_drop]; omega
      have hrem : pl (a :: r) (((a :: r).takeWhile (· != 10)).length : Nat) line col = lx (a :: r) line col true := by
        have hr := remark_len h0 h10
        rw [pl_cons, lx_cons, if_neg h0, if_neg h0, if_neg h10, hr, if_neg (by omega), hb.1, hb.2, if_pos (by simp)]
        rw [show (((pt (a :: r) + ((r.drop (pt (a :: r) - 1)).takeWhile (· != 10)).length : Nat) : Int) - (pt (a :: r) : Nat)) = (((r.drop (pt (a :: r) - 1)).takeWhile (· != 10)).length : Nat) by omega]
        exact (ih _ hd line (col + 1)).2
      refine ⟨?_, hrem⟩
      by_cases h35 : a = 35
      · have e1 : pt (a :: r) = 1 := pt_ascii (by rw [h35]; decide)
        have e3 : psd (a :: r) = ((a :: r).takeWhile (· != 10)).length := by rw [h35]; rfl
        have hr := remark_len h0 h10
        have e4 : pl (a :: r) 0 line col = pl (a :: r) (((a :: r).takeWhile (· != 10)).length : Nat) line col := by
          rw [pl_cons, pl_cons, if_neg h0, if_neg h0, if_pos rfl, e3, if_pos (by omega), if_neg (by omega)]
        rw [e4, hrem, lx_cons, lx_cons, if_neg h0, if_neg h0, if_neg h10, if_neg h10, h35]
        rfl
      by_cases hB : isB a = true
      · have e3 : psd (a :: r) = 1 := by
          unfold isB at hB
          unfold psd
          simp only [Bool.or_eq_true, beq_iff_eq] at hB ⊢
          rw [if_pos]
          rcases hB with ((h | h) | h) | h
          · exact .inl (.inl (.inl h))
          · exact .inl (.inl (.inr h))
          · exact .inl (.inr h)
          · exact absurd h h35
        have e1 : pt (a :: r) = 1 := by
          refine pt_ascii ?_
          unfold isB at hB
          simp only [Bool.or_eq_true, beq_iff_eq] at hB
          rcases hB with ((h | h) | h) | h <;> rw [h] <;> decide
        rw [pl_cons, lx_cons, if_neg h0, if_neg h0, if_pos rfl, if_neg h10, e3, if_pos (by omega), e1, hb.1, hb.2, if_pos (by simpa using hB)]
        rw [show ((false || a == 35) : Bool) = false by simpa using h35]
        exact (ih _ (by rw [List.length_drop]; omega) line (col + 1)).1
      · have e3 : psd (a :: r) = 0 := by
          unfold isB at hB
          unfold psd
          simp only [Bool.or_eq_true, beq_iff_eq, not_or] at hB ⊢
          rw [if_neg, if_neg h35]
          rintro (((h | h) | h) | h)
          · exact hB.1.1.1 h
          · exact hB.1.1.2 h
          · exact hB.1.2 h
          · exact h10 h
        rw [pl_cons, lx_cons, if_neg h0, if_neg h0, if_pos rfl, if_neg h10, e3, if_neg (show ¬ ((0 : Nat) ≠ 0) by omega), if_neg (show ¬ ((false || isB a) = true) by simpa using hB)]
        by_cases ht : (tk (a :: r)).1 = 0
        · rw [if_neg (show ¬ ((tk (a :: r)).1 ≠ 0) by omega), if_neg (show ¬ ((tk (a :: r)).1 ≠ 0) by omega)]
          obtain ⟨u, v, e, hu, h1, hall, _⟩ := tk_ok ht
          rw [← hu]
          cases u with
          | nil => simp at h1
          | cons b u =>
            obtain ⟨rfl, rfl⟩ : a = b ∧ r = u ++ v := by
              injection e with e1 e2
              exact ⟨e1, e2⟩
            have ha := hall a (List.mem_cons_self ..)
            have e1 : pt (a :: (u ++ v)) = 1 := pt_ascii ha.1
            rw [e1, hb.1, hb.2]
            have := pl_through u v line (col + 1) (fun b hb => hall b (List.mem_cons_of_mem _ hb))
            simp only [List.length_cons, Nat.sub_self, List.drop_zero, Nat.add_sub_cancel]
            rw [show (((u.length + 1 : Nat) : Int) - (1 : Nat)) = (u.length : Int) by omega, this, List.drop_left, (ih v (by simp only [List.length_append] at hl; omega) line (col + 1 + u.length)).1]
            rw [show col + 1 + u.length = col + (u.length + 1) by omega]
        · rw [if_pos ht, if_pos ht]
end Go.Proofs.YtbadingdklenhaaGreatDoor
