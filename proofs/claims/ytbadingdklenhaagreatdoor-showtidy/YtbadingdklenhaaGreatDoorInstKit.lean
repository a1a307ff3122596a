/-
  How an instance lies in memory (layer 9): lists of numbers, of items, of rows, of sets; what keeps them.
-/
import Derived.Test.YtbadingdklenhaaGreatDoorInstMath
import Derived.WalkSpells
import Derived.WalkLawsBesides
import Derived.Deep.RegionHeld3
import Derived.Deep.RegionWith
import Derived.Deep.AppendLies
import Derived.Deep.Onto
import Derived.BigQuiet
import Derived.WalkSmall
import Derived.Handy
import Derived.Below
import Derived.OneCell
import Derived.Lib.Hide
namespace Go.Proofs.YtbadingdklenhaaGreatDoor
set_option maxRecDepth 100000
open Go.RowKit

theorem on {a b c : World} (h1 : Below a.heap.size a b) (h2 : Below b.heap.size b c) : Below a.heap.size a c := h1.trans (h2.mono h1.size)
theorem new_below (w : World) (o : Obj) : Below w.heap.size w (w.alloc o) := (Below.refl _ _).alloc (Nat.le_refl _) _
theorem below_drewN {B : Nat} {a w : World} (h : Below B a w) (n : Nat) : Below B a (w.drewN n) := by
  induction n with
  | zero => exact h
  | succ n ih => exact ih.drew
theorem addr_plain (b off n : Nat) : (⟨b, off, none⟩ : Addr).add n = ⟨b, off + n, none⟩ := by unfold Addr.add; split <;> simp_all
theorem cell_lt {w : World} {b o : Nat} {v : Value} (h : w.cell? ⟨b, o, none⟩ = some v) : b < w.heap.size := World.block_lt_of_cell? w ⟨b, o, none⟩ h

/-- A slice of n elements whose cells are cs; its block is one of F. -/
def Lies (F : Nat → Prop) (w : World) (u : Value) (n : Nat) (cs : List Value) : Prop :=
  ∃ A C, u = .slice A n C ∧ n ≤ C ∧ C ≤ maxLen ∧ (0 < n → ∃ b off, A = some ⟨b, off, none⟩ ∧ F b ∧ b < w.heap.size ∧ ∀ j v, cs[j]? = some v → w.cell? ⟨b, off + j, none⟩ = some v)
/-- All blocks of F are as they were. -/
def Held (F : Nat → Prop) (w w' : World) : Prop := w.heap.size ≤ w'.heap.size ∧ ∀ b, F b → b < w.heap.size → w'.heap[b]? = w.heap[b]?
theorem Below.held {w w' : World} (h : Below w.heap.size w w') (F : Nat → Prop) : Held F w w' := ⟨h.size, fun b _ hb => h.block b hb⟩
theorem Below.heldB {w w' : World} {B : Nat} {F : Nat → Prop} (h : Below B w w') (hF : ∀ b, F b → b < B) : Held F w w' := ⟨h.size, fun b hb _ => h.block b (hF b hb)⟩
theorem Held.imp {w w' : World} {F F' : Nat → Prop} (h : Held F w w') (hF : ∀ b, F' b → F b) : Held F' w w' := ⟨h.1, fun b hb hl => h.2 b (hF b hb) hl⟩
theorem grown_held {w w' : World} {row : Option Nat} {F : Nat → Prop} (h : w.grownBy w' row) (hF : ∀ b, F b → row ≠ some b) : Held F w w' := ⟨h.size, fun b hb hl => h.block b hl (fun e => hF b hb e.symm)⟩
theorem set_held {w : World} {a : Addr} {v : Value} {F : Nat → Prop} (hF : ∀ b, F b → b ≠ a.block) : Held F w (w.setCell a v) := ⟨by simp [World.setCell], fun b hb _ => Below.heap_setCell w a v b (hF b hb)⟩
theorem Lies.held {F : Nat → Prop} {w w' : World} {u : Value} {n : Nat} {cs : List Value} (h : Lies F w u n cs) (hk : Held F w w') : Lies F w' u n cs := by
  obtain ⟨A, C, h1, h2, h3, h4⟩ := h
  refine ⟨A, C, h1, h2, h3, fun h0 => ?_⟩
  obtain ⟨b, off, h5, h6, h7, h8⟩ := h4 h0
  exact ⟨b, off, h5, h6, Nat.lt_of_lt_of_le h7 hk.1, fun j v hj => (World.cell?_of_block (hk.2 b h6 h7)).trans (h8 j v hj)⟩
theorem Lies.imp {F F' : Nat → Prop} {w : World} {u : Value} {n : Nat} {cs : List Value} (h : Lies F w u n cs) (hF : ∀ b, F b → F' b) : Lies F' w u n cs := by
  obtain ⟨A, C, h1, h2, h3, h4⟩ := h
  refine ⟨A, C, h1, h2, h3, fun h0 => ?_⟩
  obtain ⟨b, off, h5, h6, h7, h8⟩ := h4 h0
  exact ⟨b, off, h5, hF b h6, h7, h8⟩
theorem Lies.nil (F : Nat → Prop) (w : World) (cs : List Value) : Lies F w (.slice none 0 0) 0 cs := ⟨none, 0, rfl, Nat.le_refl _, by unfold maxLen; omega, fun h => absurd h (by omega)⟩
/-- A row of the call's own. -/
theorem lies_of_own {w : World} {B size n : Nat} {t : TypeId} {v : Value} {cs : List Value} (h : w.ownsRow B t size v n cs) : Lies (fun b => v.ownBlock = some b) w v n cs := by
  have hl := fun k hk => h.lt k hk
  rcases h.2 with ⟨hv, hn⟩ | ⟨g, cap, cur, hv, hb, hg, hnc, hmc, rest⟩
  · subst hn; rw [hv]; exact Lies.nil _ _ _
  · refine ⟨some ⟨g, 0, none⟩, cap, hv, hnc, hmc, fun h0 => ⟨g, 0, rfl, by rw [hv]; rfl, (hl g (by rw [hv]; rfl)).2, fun j u hj => ?_⟩⟩
    have := h.cells (g := g) (by rw [hv]; rfl) j u hj
    rwa [addr_plain] at this

/-! ### the cells of a list -/
def nl (l : List Int) : List Value := l.map (.int .i64 ·)
def fl2 (l : List (Int × Int)) : List Value := l.flatMap fun p => [.int .i64 p.1, .int .i64 p.2]
def flS (l : List (Int × List Int)) (us : List Value) : List Value := (l.zip us).flatMap fun p => [.int .i64 p.1.1, p.2]
theorem nl_get {l : List Int} {i : Nat} {x : Int} (h : l[i]? = some x) : (nl l)[i]? = some (.int .i64 x) := by simp [nl, h]
theorem nl_length (l : List Int) : (nl l).length = l.length := by simp [nl]
theorem nl_append (l m : List Int) : nl (l ++ m) = nl l ++ nl m := by simp [nl]
theorem two_get {α : Type} {f g : α → Value} : ∀ {l : List α} {i : Nat} {x : α}, l[i]? = some x → (l.flatMap fun p => [f p, g p])[i * 2]? = some (f x) ∧ (l.flatMap fun p => [f p, g p])[i * 2 + 1]? = some (g x)
  | [], i, x, h => by simp at h
  | y :: l, 0, x, h => by
    have : y = x := by simpa using h
    subst this
    exact ⟨rfl, rfl⟩
  | y :: l, i + 1, x, h => by
    have ih := two_get (f := f) (g := g) (l := l) (i := i) (x := x) (by simpa using h)
    have e : ∀ c, ((y :: l).flatMap fun p => [f p, g p])[(i + 1) * 2 + c]? = (l.flatMap fun p => [f p, g p])[i * 2 + c]? := by
      intro c
      rw [show (i + 1) * 2 + c = i * 2 + c + 2 by omega]
      rfl
    have e0 := e 0
    rw [Nat.add_zero, Nat.add_zero] at e0
    exact ⟨e0.trans ih.1, (e 1).trans ih.2⟩
theorem two_length {α : Type} {f g : α → Value} (l : List α) : (l.flatMap fun p => [f p, g p]).length = l.length * 2 := by
  induction l with
  | nil => rfl
  | cons x r ih => rw [List.flatMap_cons, List.length_append, ih, List.length_cons]; simp; omega
theorem fl2_get {l : List (Int × Int)} {i : Nat} {p : Int × Int} (h : l[i]? = some p) : (fl2 l)[i * 2]? = some (.int .i64 p.1) ∧ (fl2 l)[i * 2 + 1]? = some (.int .i64 p.2) := two_get h
theorem fl2_length (l : List (Int × Int)) : (fl2 l).length = l.length * 2 := two_length l
theorem fl2_append (l m : List (Int × Int)) : fl2 (l ++ m) = fl2 l ++ fl2 m := by simp [fl2]
theorem zip_get {l : List (Int × List Int)} {us : List Value} {i : Nat} {s : Int × List Int} {u : Value} (h : l[i]? = some s) (hu : us[i]? = some u) : (l.zip us)[i]? = some (s, u) := by
  rw [List.getElem?_zip_eq_some]; exact ⟨h, hu⟩
theorem flS_get {l : List (Int × List Int)} {us : List Value} {i : Nat} {s : Int × List Int} {u : Value} (h : l[i]? = some s) (hu : us[i]? = some u) : (flS l us)[i * 2]? = some (.int .i64 s.1) ∧ (flS l us)[i * 2 + 1]? = some u :=
  two_get (f := fun p : (Int × List Int) × Value => .int .i64 p.1.1) (g := fun p => p.2) (zip_get h hu)
theorem flS_length {l : List (Int × List Int)} {us : List Value} (h : us.length = l.length) : (flS l us).length = l.length * 2 := by
  unfold flS; rw [two_length, List.length_zip, h, Nat.min_self]
theorem flS_append {l : List (Int × List Int)} {us : List Value} (h : us.length = l.length) (s : Int × List Int) (u : Value) : flS (l ++ [s]) (us ++ [u]) = flS l us ++ [.int .i64 s.1, u] := by
  unfold flS; rw [List.zip_append h.symm, List.flatMap_append]; rfl

/-! ### what reads as what -/
def Ints (F : Nat → Prop) (w : World) (u : Value) (l : List Int) : Prop := Lies F w u l.length (nl l)
def Its (F : Nat → Prop) (w : World) (u : Value) (l : List (Int × Int)) : Prop := Lies F w u l.length (fl2 l)
structure Rws (F G : Nat → Prop) (w : World) (u : Value) (R : List (List Int)) (us : List Value) : Prop where
  mk ::
  len : us.length = R.length
  lies : Lies F w u R.length us
  rows : ∀ (i : Nat) r v, R[i]? = some r → us[i]? = some v → Ints G w v r
structure Sts (F G : Nat → Prop) (w : World) (u : Value) (S : List (Int × List Int)) (us : List Value) : Prop where
  mk ::
  len : us.length = S.length
  lies : Lies F w u S.length (flS S us)
  rows : ∀ (i : Nat) (s : Int × List Int) v, S[i]? = some s → us[i]? = some v → Ints G w v s.2
/-- An instance: F: the blocks of its lists, G: those of its lists' lists. -/
structure Ins (F G : Nat → Prop) (w : World) (v : Value) (I : In) : Prop where
  mk ::
  form : ∃ vi vc vs uc us, v = .agg #[.int .i64 I.kind, .int .i64 I.cap, vi, vc, .int .i64 I.size, vs] ∧ Its F w vi I.items ∧ Rws F G w vc I.cost uc ∧ Sts F G w vs I.sets us
section
variable {F G F' G' : Nat → Prop} {w w' : World} {u : Value}
theorem Ints.held {l : List Int} (h : Ints F w u l) (hk : Held F w w') : Ints F w' u l := Lies.held h hk
theorem Its.held {l : List (Int × Int)} (h : Its F w u l) (hk : Held F w w') : Its F w' u l := Lies.held h hk
theorem Rws.held {R : List (List Int)} {us : List Value} (h : Rws F G w u R us) (hk : Held F w w') (hg : Held G w w') : Rws F G w' u R us := ⟨h.len, h.lies.held hk, fun i r v h1 h2 => (h.rows i r v h1 h2).held hg⟩
theorem Sts.held {S : List (Int × List Int)} {us : List Value} (h : Sts F G w u S us) (hk : Held F w w') (hg : Held G w w') : Sts F G w' u S us := ⟨h.len, h.lies.held hk, fun i r v h1 h2 => (h.rows i r v h1 h2).held hg⟩
theorem Rws.imp {R : List (List Int)} {us : List Value} (h : Rws F G w u R us) (hF : ∀ b, F b → F' b) (hG : ∀ b, G b → G' b) : Rws F' G' w u R us := ⟨h.len, h.lies.imp hF, fun i r v h1 h2 => Lies.imp (h.rows i r v h1 h2) hG⟩
theorem Sts.imp {R : List (Int × List Int)} {us : List Value} (h : Sts F G w u R us) (hF : ∀ b, F b → F' b) (hG : ∀ b, G b → G' b) : Sts F' G' w u R us := ⟨h.len, h.lies.imp hF, fun i r v h1 h2 => Lies.imp (h.rows i r v h1 h2) hG⟩
theorem Ins.held {I : In} (h : Ins F G w u I) (hk : Held F w w') (hg : Held G w w') : Ins F G w' u I := by
  obtain ⟨vi, vc, vs, uc, us, e, h1, h2, h3⟩ := h.form
  exact ⟨⟨vi, vc, vs, uc, us, e, h1.held hk, h2.held hk hg, h3.held hk hg⟩⟩
theorem Ins.next {I : In} (h : Ins F G w u I) (hb : Below w.heap.size w w') : Ins F G w' u I := h.held (Below.held hb F) (Below.held hb G)
theorem Ins.imp {I : In} (h : Ins F G w u I) (hF : ∀ b, F b → F' b) (hG : ∀ b, G b → G' b) : Ins F' G' w u I := by
  obtain ⟨vi, vc, vs, uc, us, e, h1, h2, h3⟩ := h.form
  exact ⟨⟨vi, vc, vs, uc, us, e, Lies.imp h1 hF, h2.imp hF hG, h3.imp hF hG⟩⟩
theorem Ints.form {l : List Int} (h : Ints F w u l) : ∃ A C, u = .slice A l.length C ∧ l.length ≤ C ∧ C ≤ maxLen := by obtain ⟨A, C, h1, h2, h3, _⟩ := h; exact ⟨A, C, h1, h2, h3⟩
theorem Its.form {l : List (Int × Int)} (h : Its F w u l) : ∃ A C, u = .slice A l.length C ∧ l.length ≤ C ∧ C ≤ maxLen := by obtain ⟨A, C, h1, h2, h3, _⟩ := h; exact ⟨A, C, h1, h2, h3⟩
theorem Rws.form {R : List (List Int)} {us : List Value} (h : Rws F G w u R us) : ∃ A C, u = .slice A R.length C ∧ R.length ≤ C ∧ C ≤ maxLen := by obtain ⟨A, C, h1, h2, h3, _⟩ := h.lies; exact ⟨A, C, h1, h2, h3⟩
theorem Sts.form {S : List (Int × List Int)} {us : List Value} (h : Sts F G w u S us) : ∃ A C, u = .slice A S.length C ∧ S.length ≤ C ∧ C ≤ maxLen := by obtain ⟨A, C, h1, h2, h3, _⟩ := h.lies; exact ⟨A, C, h1, h2, h3⟩
theorem Its.next {l : List (Int × Int)} (h : Its F w u l) (hb : Below w.heap.size w w') : Its F w' u l := h.held (Below.held hb F)
theorem Ints.next {l : List Int} (h : Ints F w u l) (hb : Below w.heap.size w w') : Ints F w' u l := h.held (Below.held hb F)
theorem Rws.next {R : List (List Int)} {us : List Value} (h : Rws F G w u R us) (hb : Below w.heap.size w w') : Rws F G w' u R us := h.held (Below.held hb F) (Below.held hb G)
theorem Sts.next {S : List (Int × List Int)} {us : List Value} (h : Sts F G w u S us) (hb : Below w.heap.size w w') : Sts F G w' u S us := h.held (Below.held hb F) (Below.held hb G)
theorem Ints.get {A : Option Addr} {n C : Nat} {l : List Int} (h : Ints F w (.slice A n C) l) {i : Nat} (hi : i < l.length) : ∃ b off x, A = some ⟨b, off, none⟩ ∧ F b ∧ b < w.heap.size ∧ l[i]? = some x ∧ w.cell? ⟨b, off + i, none⟩ = some (.int .i64 x) := by
  obtain ⟨A', C', e, _, _, h4⟩ := h
  obtain ⟨rfl, rfl, rfl⟩ : A = A' ∧ n = l.length ∧ C = C' := by simpa using e
  obtain ⟨b, off, h5, h6, h7, h8⟩ := h4 (by omega)
  exact ⟨b, off, l[i], h5, h6, h7, List.getElem?_eq_getElem hi, h8 i _ (nl_get (List.getElem?_eq_getElem hi))⟩
theorem Its.get {A : Option Addr} {n C : Nat} {l : List (Int × Int)} (h : Its F w (.slice A n C) l) {i : Nat} (hi : i < l.length) : ∃ b off x, A = some ⟨b, off, none⟩ ∧ F b ∧ b < w.heap.size ∧ l[i]? = some x ∧ w.cell? ⟨b, off + i * 2, none⟩ = some (.int .i64 x.1) ∧ w.cell? ⟨b, off + i * 2 + 1, none⟩ = some (.int .i64 x.2) := by
  obtain ⟨A', C', e, _, _, h4⟩ := h
  obtain ⟨rfl, rfl, rfl⟩ : A = A' ∧ n = l.length ∧ C = C' := by simpa using e
  obtain ⟨b, off, h5, h6, h7, h8⟩ := h4 (by omega)
  have hg := fl2_get (List.getElem?_eq_getElem hi)
  exact ⟨b, off, l[i], h5, h6, h7, List.getElem?_eq_getElem hi, h8 _ _ hg.1, h8 _ _ hg.2⟩
theorem Rws.get {A : Option Addr} {n C : Nat} {R : List (List Int)} {us : List Value} (h : Rws F G w (.slice A n C) R us) {i : Nat} (hi : i < R.length) :
    ∃ b off r A' C', A = some ⟨b, off, none⟩ ∧ F b ∧ b < w.heap.size ∧ R[i]? = some r ∧ w.cell? ⟨b, off + i, none⟩ = some (.slice A' r.length C') ∧ us[i]? = some (.slice A' r.length C') ∧ r.length ≤ C' ∧ C' ≤ maxLen ∧ Ints G w (.slice A' r.length C') r := by
  obtain ⟨A', C', e, _, _, h4⟩ := h.lies
  obtain ⟨rfl, rfl, rfl⟩ : A = A' ∧ n = R.length ∧ C = C' := by simpa using e
  obtain ⟨b, off, h5, h6, h7, h8⟩ := h4 (by omega)
  have hu : us[i]? = some (us[i]'(by rw [h.len]; exact hi)) := List.getElem?_eq_getElem _
  have hr := h.rows i _ _ (List.getElem?_eq_getElem hi) hu
  obtain ⟨A', C', e1, e2, e3⟩ := hr.form
  rw [e1] at hr hu
  exact ⟨b, off, R[i], A', C', h5, h6, h7, List.getElem?_eq_getElem hi, h8 i _ hu, hu, e2, e3, hr⟩
theorem Sts.get {A : Option Addr} {n C : Nat} {S : List (Int × List Int)} {us : List Value} (h : Sts F G w (.slice A n C) S us) {i : Nat} (hi : i < S.length) :
    ∃ b off s A' C', A = some ⟨b, off, none⟩ ∧ F b ∧ b < w.heap.size ∧ S[i]? = some s ∧ w.cell? ⟨b, off + i * 2, none⟩ = some (.int .i64 s.1) ∧ w.cell? ⟨b, off + i * 2 + 1, none⟩ = some (.slice A' s.2.length C') ∧ us[i]? = some (.slice A' s.2.length C') ∧ s.2.length ≤ C' ∧ C' ≤ maxLen ∧ Ints G w (.slice A' s.2.length C') s.2 := by
  obtain ⟨A', C', e, _, _, h4⟩ := h.lies
  obtain ⟨rfl, rfl, rfl⟩ : A = A' ∧ n = S.length ∧ C = C' := by simpa using e
  obtain ⟨b, off, h5, h6, h7, h8⟩ := h4 (by omega)
  have hu : us[i]? = some (us[i]'(by rw [h.len]; exact hi)) := List.getElem?_eq_getElem _
  have hr := h.rows i _ _ (List.getElem?_eq_getElem hi) hu
  obtain ⟨A', C', e1, e2, e3⟩ := hr.form
  rw [e1] at hr hu
  have hg := flS_get (List.getElem?_eq_getElem hi) hu
  exact ⟨b, off, S[i], A', C', h5, h6, h7, List.getElem?_eq_getElem hi, h8 _ _ hg.1, h8 _ _ hg.2, hu, e2, e3, hr⟩
end

/-! ### a variable that holds an instance -/
def inV (I : In) (vi vc vs : Value) : Value := .agg #[.int .i64 I.kind, .int .i64 I.cap, vi, vc, .int .i64 I.size, vs]
structure IBox (b : Nat) (k c i s z t : Value) (w : World) : Prop where
  mk ::
  c0 : w.cell? ⟨b, 0, none⟩ = some k
  c1 : w.cell? ⟨b, 1, none⟩ = some c
  c2 : w.cell? ⟨b, 2, none⟩ = some i
  c3 : w.cell? ⟨b, 3, none⟩ = some s
  c4 : w.cell? ⟨b, 4, none⟩ = some z
  c5 : w.cell? ⟨b, 5, none⟩ = some t
theorem ibox_new (w : World) (k c i s z t : Value) (T : TypeId) : IBox w.heap.size k c i s z t (w.alloc (.cells #[k, c, i, s, z, t] T)) := by
  have h : (w.alloc (.cells #[k, c, i, s, z, t] T)).heap[w.heap.size]? = some (.cells #[k, c, i, s, z, t] T (0, 0)) := heap_alloc_new _ _
  refine ⟨?_, ?_, ?_, ?_, ?_, ?_⟩ <;> (unfold World.cell?; simp only [h]; rfl)
theorem IBox.size {b : Nat} {k c i s z t : Value} {w : World} (h : IBox b k c i s z t w) : b < w.heap.size := cell_lt h.c0
theorem IBox.held {b : Nat} {k c i s z t : Value} {w w' : World} (h : IBox b k c i s z t w) (hk : w'.heap[b]? = w.heap[b]?) : IBox b k c i s z t w' :=
  ⟨(World.cell?_of_block hk).trans h.c0, (World.cell?_of_block hk).trans h.c1, (World.cell?_of_block hk).trans h.c2, (World.cell?_of_block hk).trans h.c3, (World.cell?_of_block hk).trans h.c4, (World.cell?_of_block hk).trans h.c5⟩
theorem IBox.next {b : Nat} {k c i s z t : Value} {w w' : World} (h : IBox b k c i s z t w) (hb : Below w.heap.size w w') : IBox b k c i s z t w' := h.held (hb.block b h.size)
end Go.Proofs.YtbadingdklenhaaGreatDoor
