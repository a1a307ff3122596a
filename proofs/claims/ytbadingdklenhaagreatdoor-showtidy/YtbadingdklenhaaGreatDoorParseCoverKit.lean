/-
  What stands in memory while the reader's cover reads a set.
-/
import Derived.Test.YtbadingdklenhaaGreatDoorParseSquare
namespace Go.Proofs.YtbadingdklenhaaGreatDoor
set_option maxRecDepth 100000
open Go.RowKit

/-- A region 'i.f = append(i.f, T{x, call()})' whose call gives a list: c: the call, dc: its slot; bl: the literal's value, db: its slot; m: the literal's row; a: the append; s: the store; l: the load. -/
structure Cl (c m a s l bl dc db dm da : Nat) (X : Value) (A0 : World → Prop) (A1 A2 A3 : Value → World → Prop) (A4 : World → Prop) (e : Nat → Bool) (t : Nat → Value) (wr : World) : Prop where
  mk ::
  p0 : e c = false → A0 wr
  p1 : e c = true → e m = false → A1 (t dc) wr
  p2 : e m = true → e a = false → A2 (t dm) wr
  p3 : e a = true → e s = false → A3 (t da) wr
  p4 : e s = true → A4 wr
  m1 : e m = true → e c = true
  a1 : e a = true → e m = true ∧ e l = true
  s1 : e s = true → e a = true
  b1 : e bl = true → e c = true ∧ t db = .agg #[X, t dc]
  sh : e c = true → ∃ A n C, t dc = .slice A n C
namespace Cl
variable {c m a s l bl dc db dm da : Nat} {X : Value} {A0 : World → Prop} {A1 A2 A3 : Value → World → Prop} {A4 : World → Prop} {e : Nat → Bool} {t : Nat → Value} {wr w' : World}
theorem start (t : Nat → Value) (h : A0 wr) : Cl c m a s l bl dc db dm da X A0 A1 A2 A3 A4 (fun _ => false) t wr :=
  ⟨fun _ => h, (fun q => by cases q), (fun q => by cases q), (fun q => by cases q), (fun q => by cases q), (fun q => by cases q), (fun q => by cases q), (fun q => by cases q), (fun q => by cases q), (fun q => by cases q)⟩
theorem of (h : Cl c m a s l bl dc db dm da X A0 A1 A2 A3 A4 e t wr) {i d : Nat} {v : Value} (h1 : c ≠ i) (h2 : m ≠ i) (h3 : a ≠ i) (h4 : s ≠ i) (h0 : bl ≠ i) (h5 : dm ≠ d) (h6 : da ≠ d) (h7 : dc ≠ d) (h8 : db ≠ d) : Cl c m a s l bl dc db dm da X A0 A1 A2 A3 A4 (upd e i true) (upd t d v) wr := by
  have u1 : upd e i true c = e c := upd_ne _ _ h1
  have u2 : upd e i true m = e m := upd_ne _ _ h2
  have u3 : upd e i true a = e a := upd_ne _ _ h3
  have u4 : upd e i true s = e s := upd_ne _ _ h4
  have u0 : upd e i true bl = e bl := upd_ne _ _ h0
  have u5 : upd t d v dm = t dm := upd_ne _ _ h5
  have u6 : upd t d v da = t da := upd_ne _ _ h6
  have u7 : upd t d v dc = t dc := upd_ne _ _ h7
  have u8 : upd t d v db = t db := upd_ne _ _ h8
  refine ⟨?_, ?_, ?_, ?_, ?_, ?_, fun q => ?_, ?_, ?_, ?_⟩
  · rw [u1]; exact h.p0
  · rw [u1, u2, u7]; exact h.p1
  · rw [u2, u3, u5]; exact h.p2
  · rw [u3, u4, u6]; exact h.p3
  · rw [u4]; exact h.p4
  · rw [u1, u2]; exact h.m1
  · rw [u3] at q
    rw [u2]
    refine ⟨(h.a1 q).1, ?_⟩
    by_cases hl : l = i
    · rw [hl, upd_at]
    · rw [upd_ne _ _ hl]; exact (h.a1 q).2
  · rw [u3, u4]; exact h.s1
  · rw [u0, u1, u7, u8]; exact h.b1
  · rw [u1, u7]; exact h.sh
theorem notm (h : Cl c m a s l bl dc db dm da X A0 A1 A2 A3 A4 e t wr) (hc : e c = false) : e m = false := by
  cases q : e m with
  | false => rfl
  | true => rw [h.m1 q] at hc; cases hc
theorem nota (h : Cl c m a s l bl dc db dm da X A0 A1 A2 A3 A4 e t wr) (hm : e m = false) : e a = false := by
  cases q : e a with
  | false => rfl
  | true => rw [(h.a1 q).1] at hm; cases hm
theorem nots (h : Cl c m a s l bl dc db dm da X A0 A1 A2 A3 A4 e t wr) (ha : e a = false) : e s = false := by
  cases q : e s with
  | false => rfl
  | true => rw [h.s1 q] at ha; cases ha
theorem load (h : Cl c m a s l bl dc db dm da X A0 A1 A2 A3 A4 e t wr) (hl : e l = false) {B : World → Prop} (b0 : ∀ w, A0 w → B w) (b1 : ∀ v w, A1 v w → B w) (b2 : ∀ v w, A2 v w → B w) : B wr := by
  have ha : e a = false := by
    cases q : e a with
    | false => rfl
    | true => rw [(h.a1 q).2] at hl; cases hl
  cases hc : e c with
  | false => exact b0 _ (h.p0 hc)
  | true =>
    cases hm : e m with
    | false => exact b1 _ _ (h.p1 hc hm)
    | true => exact b2 _ _ (h.p2 hm ha)
theorem call (h : Cl c m a s l bl dc db dm da X A0 A1 A2 A3 A4 e t wr) (hc : e c = false) {v : Value} (h1 : m ≠ c) (h2 : a ≠ c) (h3 : s ≠ c) (h4 : bl ≠ c) (hs : ∃ A n C, v = .slice A n C) (hA : A1 v w') : Cl c m a s l bl dc db dm da X A0 A1 A2 A3 A4 (upd e c true) (upd t dc v) w' := by
  have qm := h.notm hc
  have qa := h.nota qm
  have qs := h.nots qa
  have qb : e bl = false := by
    cases q : e bl with
    | false => rfl
    | true => rw [(h.b1 q).1] at hc; cases hc
  refine ⟨fun q => ?_, fun _ _ => by rw [upd_at]; exact hA, fun q => ?_, fun q => ?_, fun q => ?_, fun _ => upd_at _ _ _, fun q => ?_, fun q => ?_, fun q => ?_, fun _ => by rw [upd_at]; exact hs⟩
  · rw [upd_at] at q; cases q
  · rw [upd_ne _ _ h1, qm] at q; cases q
  · rw [upd_ne _ _ h2, qa] at q; cases q
  · rw [upd_ne _ _ h3, qs] at q; cases q
  · rw [upd_ne _ _ h2, qa] at q; cases q
  · rw [upd_ne _ _ h3, qs] at q; cases q
  · rw [upd_ne _ _ h4, qb] at q; cases q
theorem bld (h : Cl c m a s l bl dc db dm da X A0 A1 A2 A3 A4 e t wr) (dc' : e c = true) (h1 : c ≠ bl) (h2 : m ≠ bl) (h3 : a ≠ bl) (h4 : s ≠ bl) (h0 : l ≠ bl) (h5 : dm ≠ db) (h6 : da ≠ db) (h7 : dc ≠ db) : Cl c m a s l bl dc db dm da X A0 A1 A2 A3 A4 (upd e bl true) (upd t db (.agg #[X, t dc])) wr := by
  have u1 : upd e bl true c = e c := upd_ne _ _ h1
  have u2 : upd e bl true m = e m := upd_ne _ _ h2
  have u3 : upd e bl true a = e a := upd_ne _ _ h3
  have u4 : upd e bl true s = e s := upd_ne _ _ h4
  have u0 : upd e bl true l = e l := upd_ne _ _ h0
  have u5 : upd t db (.agg #[X, t dc]) dm = t dm := upd_ne _ _ h5
  have u6 : upd t db (.agg #[X, t dc]) da = t da := upd_ne _ _ h6
  have u7 : upd t db (.agg #[X, t dc]) dc = t dc := upd_ne _ _ h7
  refine ⟨?_, ?_, ?_, ?_, ?_, ?_, ?_, ?_, ?_, ?_⟩
  · rw [u1]; exact h.p0
  · rw [u1, u2, u7]; exact h.p1
  · rw [u2, u3, u5]; exact h.p2
  · rw [u3, u4, u6]; exact h.p3
  · rw [u4]; exact h.p4
  · rw [u1, u2]; exact h.m1
  · rw [u2, u3, u0]; exact h.a1
  · rw [u3, u4]; exact h.s1
  · intro _
    rw [u1, u7, upd_at]
    exact ⟨dc', rfl⟩
  · rw [u1, u7]; exact h.sh
theorem make (h : Cl c m a s l bl dc db dm da X A0 A1 A2 A3 A4 e t wr) (hm : e m = false) (dc' : e c = true) {v : Value} (h1 : c ≠ m) (h2 : a ≠ m) (h3 : s ≠ m) (h4 : bl ≠ m) (h5 : dc ≠ dm) (h6 : db ≠ dm) (hA : A2 v w') : Cl c m a s l bl dc db dm da X A0 A1 A2 A3 A4 (upd e m true) (upd t dm v) w' := by
  have qa := h.nota hm
  have qs := h.nots qa
  refine ⟨fun q => ?_, fun _ q => ?_, fun _ _ => by rw [upd_at]; exact hA, fun q => ?_, fun q => ?_, fun _ => by rw [upd_ne _ _ h1]; exact dc', fun q => ?_, fun q => ?_, fun q => ?_, fun _ => by rw [upd_ne _ _ h5]; exact h.sh dc'⟩
  · rw [upd_ne _ _ h1, dc'] at q; cases q
  · rw [upd_at] at q; cases q
  · rw [upd_ne _ _ h2, qa] at q; cases q
  · rw [upd_ne _ _ h3, qs] at q; cases q
  · rw [upd_ne _ _ h2, qa] at q; cases q
  · rw [upd_ne _ _ h3, qs] at q; cases q
  · rw [upd_ne _ _ h4] at q
    rw [upd_ne _ _ h1, upd_ne _ _ h5, upd_ne _ _ h6]
    exact h.b1 q
theorem app (h : Cl c m a s l bl dc db dm da X A0 A1 A2 A3 A4 e t wr) (ha : e a = false) (dm' : e m = true) (dl : e l = true) {v : Value} (h1 : c ≠ a) (h2 : m ≠ a) (h3 : s ≠ a) (h4 : l ≠ a) (h5 : bl ≠ a) (h6 : dc ≠ da) (h7 : db ≠ da) (hA : A3 v w') : Cl c m a s l bl dc db dm da X A0 A1 A2 A3 A4 (upd e a true) (upd t da v) w' := by
  have qs := h.nots ha
  have dc' := h.m1 dm'
  refine ⟨fun q => ?_, fun _ q => ?_, fun _ q => ?_, fun _ _ => by rw [upd_at]; exact hA, fun q => ?_, fun _ => by rw [upd_ne _ _ h1]; exact dc', fun _ => by rw [upd_ne _ _ h2, upd_ne _ _ h4]; exact ⟨dm', dl⟩, fun q => ?_, fun q => ?_, fun _ => by rw [upd_ne _ _ h6]; exact h.sh dc'⟩
  · rw [upd_ne _ _ h1, dc'] at q; cases q
  · rw [upd_ne _ _ h2, dm'] at q; cases q
  · rw [upd_at] at q; cases q
  · rw [upd_ne _ _ h3, qs] at q; cases q
  · rw [upd_ne _ _ h3, qs] at q; cases q
  · rw [upd_ne _ _ h5] at q
    rw [upd_ne _ _ h1, upd_ne _ _ h6, upd_ne _ _ h7]
    exact h.b1 q
theorem st (h : Cl c m a s l bl dc db dm da X A0 A1 A2 A3 A4 e t wr) (d : e a = true) (h1 : c ≠ s) (h2 : m ≠ s) (h3 : a ≠ s) (h4 : l ≠ s) (h5 : bl ≠ s) (hA : A4 w') : Cl c m a s l bl dc db dm da X A0 A1 A2 A3 A4 (upd e s true) t w' := by
  obtain ⟨dm', dl⟩ := h.a1 d
  have dc' := h.m1 dm'
  refine ⟨fun q => ?_, fun _ q => ?_, fun _ q => ?_, fun _ q => ?_, fun _ => hA, fun _ => by rw [upd_ne _ _ h1]; exact dc', fun _ => by rw [upd_ne _ _ h2, upd_ne _ _ h4]; exact ⟨dm', dl⟩, fun _ => by rw [upd_ne _ _ h3]; exact d, fun q => ?_, fun _ => h.sh dc'⟩
  · rw [upd_ne _ _ h1, dc'] at q; cases q
  · rw [upd_ne _ _ h2, dm'] at q; cases q
  · rw [upd_ne _ _ h3, d] at q; cases q
  · rw [upd_at] at q; cases q
  · rw [upd_ne _ _ h5] at q
    rw [upd_ne _ _ h1]
    exact h.b1 q
end Cl

theorem Lies.lts {F : Nat → Prop} {w : World} {u : Value} {n : Nat} {cs : List Value} (h : Lies F w u n cs) : Lies (fun q => F q ∧ q < w.heap.size) w u n cs := by
  obtain ⟨A, C, h1, h2, h3, h4⟩ := h
  refine ⟨A, C, h1, h2, h3, fun h0 => ?_⟩
  obtain ⟨b, off, h5, h6, h7, h8⟩ := h4 h0
  exact ⟨b, off, h5, ⟨h6, h7⟩, h7, h8⟩
/-- Blocks behind the instance's variable that are not the list's own. -/
def CvF (ib : Nat) (va : Value) (b : Nat) : Prop := ib < b ∧ va.ownBlock ≠ some b
/-- What stands while sets are read: the result's variable, the instance so far, its sets; the reader at k. -/
structure Cv0 (r g C : Nat) (L : List Tk) (z : Int) (w : World) (ib : Nat) (va : Value) (S : List (Int × List Int)) (us : List Value) (k : Nat) (wr : World) : Prop where
  mk ::
  res : IBlk w.heap.size 33 (.int .i64 0) (.int .i64 0) (.slice none 0 0) (.slice none 0 0) (.int .i64 0) (.slice none 0 0) wr
  box : IBlk ib 33 (.int .i64 3) (.int .i64 0) (.slice none 0 0) (.slice none 0 0) (.int .i64 z) va wr
  own : wr.ownsRow (ib + 1) 71 2 va S.length (flS S us)
  ul : us.length = S.length
  rows : ∀ (i : Nat) (s : Int × List Int) v, S[i]? = some s → us[i]? = some v → Ints (CvF ib va) wr v s.2
  rd : RdS r g C L k wr
  kb : Kb r w wr
  ib0 : w.heap.size < ib
/-- At the loop's head. -/
structure CvAt (r g C : Nat) (L : List Tk) (k2 : Nat) (z : Int) (w : World) (ib : Nat) (va : Value) (S : List (Int × List Int)) (us : List Value) (k : Nat) (wr : World) : Prop where
  mk ::
  c : Cv0 r g C L z w ib va S us k wr
  q : setsG L z S k = setsG L z [] k2
  len : S.length ≤ 4096
/-- Behind the call. -/
def Cv1 (N : Rd (List Int)) (r g C : Nat) (L : List Tk) (z : Int) (w : World) (ib : Nat) (va : Value) (S : List (Int × List Int)) (us : List Value) (ev : Value) (wr : World) : Prop := ∃ l k4, N = .ok l k4 ∧ Ints (CvF ib va) wr ev l ∧ Cv0 r g C L z w ib va S us k4 wr
/-- The literal's row. -/
def CvLit (N : Rd (List Int)) (r g C : Nat) (L : List Tk) (z : Int) (w : World) (ib : Nat) (va : Value) (S : List (Int × List Int)) (us : List Value) (c : Int) (tv : Value) (wr : World) : Prop :=
  ∃ b ev, tv = .slice (some ⟨b, 0, none⟩) 1 1 ∧ wr.heap[b]? = some (.cells #[.int .i64 c, ev] 71 (0, 0)) ∧ Cv1 N r g C L z w ib va S us ev wr
/-- The longer list. -/
def CvApp (N : Rd (List Int)) (r g C : Nat) (L : List Tk) (z : Int) (w : World) (ib : Nat) (va : Value) (S : List (Int × List Int)) (us : List Value) (c : Int) (tv : Value) (wr : World) : Prop :=
  ∃ b c' ev l k4, N = .ok l k4 ∧ tv = .slice (some ⟨b, 0, none⟩) (S.length + 1) c' ∧ wr.ownsRow (ib + 1) 71 2 tv (S.length + 1) (flS (S ++ [(c, l)]) (us ++ [ev])) ∧
    IBlk w.heap.size 33 (.int .i64 0) (.int .i64 0) (.slice none 0 0) (.slice none 0 0) (.int .i64 0) (.slice none 0 0) wr ∧ IBlk ib 33 (.int .i64 3) (.int .i64 0) (.slice none 0 0) (.slice none 0 0) (.int .i64 z) va wr ∧
    (∀ (i : Nat) (s : Int × List Int) v, (S ++ [(c, l)])[i]? = some s → (us ++ [ev])[i]? = some v → Ints (CvF ib tv) wr v s.2) ∧ RdS r g C L k4 wr ∧ Kb r w wr ∧ us.length = S.length ∧ w.heap.size < ib
section
variable {N : Rd (List Int)} {r g C : Nat} {L : List Tk} {k2 : Nat} {z : Int} {w : World} {ib : Nat} {va : Value} {S : List (Int × List Int)} {us : List Value} {c : Int} {wr w' : World} {k : Nat}
theorem Cv0.next (h : Cv0 r g C L z w ib va S us k wr) (nb : Below wr.heap.size wr w') : Cv0 r g C L z w ib va S us k w' :=
  ⟨h.res.next nb, h.box.next nb, own_next h.own nb, h.ul, fun i s v a b => (h.rows i s v a b).next nb, h.rd.next nb, h.kb.next nb, h.ib0⟩
theorem Cv0.kb' (h : Cv0 r g C L z w ib va S us k wr) (hr0 : r < w.heap.size) {k4 : Nat} (h1 : RdS r g C L k4 w') (kb : Kb r wr w') : Cv0 r g C L z w ib va S us k4 w' := by
  have := h.ib0
  exact ⟨h.res.kb kb (by omega), h.box.kb kb (by omega), kb.own (by omega) h.own, h.ul, fun i s v a b => (h.rows i s v a b).held (kb.held (fun q hq => by have := hq.1; omega)), h1, h.kb.trans kb, h.ib0⟩
theorem Cv0.call (h : Cv0 r g C L z w ib va S us k wr) (hr0 : r < w.heap.size) {l : List Int} {k4 : Nat} (hN : N = .ok l k4) {ev : Value} (he : w'.ownsRow wr.heap.size 3 1 ev l.length (nl l)) (h1 : RdS r g C L k4 w') (kb : Kb r wr w') : Cv1 N r g C L z w ib va S us ev w' := by
  have hb := h.box.lt
  refine ⟨l, k4, hN, Lies.imp (lies_of_own he) (fun q hq => ⟨?_, fun e => ?_⟩), h.kb' hr0 h1 kb⟩
  · have := (he.lt q hq).1; omega
  · have h2 := (he.lt q hq).1
    have h3 := (h.own.lt q e).2
    omega
theorem Cv1.c0 {ev : Value} (h : Cv1 N r g C L z w ib va S us ev wr) : Cv0 r g C L z w ib va S us (rdK N) wr := by
  obtain ⟨l, k4, rfl, _, h0⟩ := h
  exact h0
theorem Cv1.lit {ev : Value} (h : Cv1 N r g C L z w ib va S us ev wr) : CvLit N r g C L z w ib va S us c (.slice (some ⟨wr.heap.size, 0, none⟩) 1 1) (wr.alloc (.cells #[.int .i64 c, ev] 71)) := by
  obtain ⟨l, k4, hN, he, h0⟩ := h
  exact ⟨wr.heap.size, ev, rfl, heap_alloc_new _ _, l, k4, hN, he.next (new_below _ _), h0.next (new_below _ _)⟩
theorem Cv1.app {ev : Value} (h : Cv1 N r g C L z w ib va S us ev wr) (hr0 : r < w.heap.size) (hg0 : g < w.heap.size) {b c' : Nat}
    (ho : w'.ownsRow (ib + 1) 71 2 (.slice (some ⟨b, 0, none⟩) (S.length + 1) c') (S.length + 1) (flS S us ++ [.int .i64 c, ev])) (hg : wr.grownBy w' va.ownBlock) (hat : va.ownBlock = some b ∨ b = wr.heap.size) : CvApp N r g C L z w ib va S us c (.slice (some ⟨b, 0, none⟩) (S.length + 1) c') w' := by
  obtain ⟨l, k4, hN, he, h⟩ := h
  have hrow : ∀ q, va.ownBlock = some q → ib + 1 ≤ q := fun q hq => (h.own.lt q hq).1
  have hib := h.ib0
  have hi : ∀ {v : Value} {m : List Int}, Ints (CvF ib va) wr v m → Ints (CvF ib (.slice (some ⟨b, 0, none⟩) (S.length + 1) c')) w' v m := fun {v m} q => by
    have q1 : Ints (fun q => CvF ib va q ∧ q < wr.heap.size) wr v m := Lies.lts q
    refine Lies.imp (q1.held (grown_held hg (fun b hb => hb.1.2))) (fun y hy => ⟨hy.1.1, fun e => ?_⟩)
    have e2 : b = y := by simpa [Value.ownBlock] using e
    subst e2
    rcases hat with h1 | h1
    · exact hy.1.2 h1
    · have := hy.2; omega
  refine ⟨b, c', ev, l, k4, hN, rfl, ?_, h.res.keep (hg.block _ h.res.lt (fun q => by have := hrow _ q.symm; omega)), h.box.keep (hg.block _ h.box.lt (fun q => by have := hrow _ q.symm; omega)), fun i s v a d => ?_, h.rd.grown hg (B := ib + 1) ⟨by omega, by omega⟩ hrow, h.kb.grown hg (fun q hq => by have := hrow q hq; omega), h.ul, hib⟩
  · rw [flS_append h.ul]
    exact ho
  · have hul := h.ul
    rcases Nat.lt_or_ge i S.length with hlt | hlt
    · rw [List.getElem?_append_left hlt] at a
      rw [List.getElem?_append_left (by omega)] at d
      exact hi (h.rows i s v a d)
    · have hi2 : i = S.length := by
        have := (List.getElem?_eq_some_iff.1 a).1
        simp at this
        omega
      subst hi2
      rw [List.getElem?_append_right (Nat.le_refl _), Nat.sub_self] at a
      rw [← hul, List.getElem?_append_right (Nat.le_refl _), Nat.sub_self] at d
      obtain rfl : (c, l) = s := by simpa using a
      obtain rfl : ev = v := by simpa using d
      exact hi he
theorem CvApp.st {tv : Value} (h : CvApp N r g C L z w ib va S us c tv wr) (hr0 : r < w.heap.size) (hg0 : g < w.heap.size) (hlen : ¬ S.length = 4096) (hlen2 : S.length ≤ 4096)
    (hq : (N.nx fun l k4 => setsG L z (S ++ [(c, l)]) k4) = setsG L z [] k2) : ∃ us' l k4, N = .ok l k4 ∧ CvAt r g C L k2 z w ib tv (S ++ [(c, l)]) us' k4 (wr.setCell ⟨ib, 5, none⟩ tv) := by
  obtain ⟨b, c', ev, l, k4, hN, rfl, ho, hres, hbox, hrows, hrd, hkb, hul, hib⟩ := h
  subst hN
  refine ⟨us ++ [ev], l, k4, rfl, ⟨hres.other (a := ⟨ib, 5, none⟩) (show w.heap.size ≠ ib by omega) _, hbox.set5 _, ?_, by simp [hul], fun i s v a d => (hrows i s v a d).held (set_held (a := ⟨ib, 5, none⟩) (fun q hq => by have := hq.1; exact Nat.ne_of_gt this)), hrd.other (a := ⟨ib, 5, none⟩) (show ib ≠ r by omega) (show ib ≠ g by omega) _, hkb.new (a := ⟨ib, 5, none⟩) (show w.heap.size ≤ ib by omega) _, hib⟩, hq, by simp; omega⟩
  rw [List.length_append, List.length_singleton]
  exact ownsRow_setCell_below (a := ⟨ib, 5, none⟩) ho (show ib < ib + 1 by omega) _
end
theorem own_form3 {w : World} {B size n : Nat} {t : TypeId} {v : Value} {cs : List Value} (h : w.ownsRow B t size v n cs) : ∃ A n C, v = .slice A n C := by
  obtain ⟨A, c, e⟩ := own_sliceP h
  exact ⟨A, n, c, e⟩
theorem ins_sets {w : World} {B M : Nat} {z : Int} {v : Value} {S : List (Int × List Int)} {us : List Value} {t : TypeId} (h : w.ownsRow B t 2 v S.length (flS S us)) (hM : M ≤ B) (hu : us.length = S.length) (hr : ∀ (i : Nat) (s : Int × List Int) v, S[i]? = some s → us[i]? = some v → Ints (fun b => M ≤ b) w v s.2) :
    Ins (fun b => M ≤ b) (fun b => M ≤ b) w (inV ⟨3, 0, [], [], z, S⟩ (.slice none 0 0) (.slice none 0 0) v) ⟨3, 0, [], [], z, S⟩ := by
  have hl := fun q hq => (h.lt q hq).1
  exact ⟨⟨.slice none 0 0, .slice none 0 0, v, [], us, rfl, Lies.nil _ _ _, ⟨rfl, Lies.nil _ _ _, fun i r u a => by simp at a⟩, ⟨hu, Lies.imp (lies_of_own h) (fun q hq => Nat.le_trans hM (hl q hq)), hr⟩⟩⟩
end Go.Proofs.YtbadingdklenhaaGreatDoor
