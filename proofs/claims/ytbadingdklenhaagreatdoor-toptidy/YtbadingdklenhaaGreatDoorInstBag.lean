/-
  Lists of the call's own, each in a block of its own, by labels; two lists that are appended to at once in a region that draws its order (layer 9).
-/
import Derived.Test.YtbadingdklenhaaGreatDoorInstCopyKit
import Derived.Test.YtbadingdklenhaaGreatDoorRegionKit2
namespace Go.Proofs.YtbadingdklenhaaGreatDoor
set_option maxRecDepth 100000
open Go.RowKit

/-- A list of the call's own. -/
structure Lst where
  v : Value
  T : TypeId
  sz : Nat
  n : Nat
  cs : List Value
/-- Each label's list is the call's own; no two of them lie in one block. -/
structure Bag (B : Nat) (w : World) (f : Nat → Option Lst) : Prop where
  mk ::
  own : ∀ i x, f i = some x → w.ownsRow B x.T x.sz x.v x.n x.cs
  ne : ∀ i j x y, i ≠ j → f i = some x → f j = some y → ∀ q, x.v.ownBlock = some q → y.v.ownBlock ≠ some q
namespace Bag
variable {B : Nat} {w w' : World} {f : Nat → Option Lst}
theorem next (h : Bag B w f) (hb : Below w.heap.size w w') : Bag B w' f := ⟨fun i x hx => own_next (h.own i x hx) hb, h.ne⟩
theorem low (h : Bag B w f) {a : Addr} (ha : a.block < B) (v : Value) : Bag B (w.setCell a v) f := ⟨fun i x hx => ownsRow_setCell_below (h.own i x hx) ha v, h.ne⟩
theorem sub {f' : Nat → Option Lst} (h : Bag B w f) (hf : ∀ i x, f' i = some x → f i = some x) : Bag B w f' :=
  ⟨fun i x hx => h.own i x (hf i x hx), fun i j x y hij hx hy => h.ne i j x y hij (hf i x hx) (hf j y hy)⟩
theorem push (h : Bag B w f) (hB : B ≤ w.heap.size) (hb : Below w.heap.size w w') {x : Lst} (ho : w'.ownsRow w.heap.size x.T x.sz x.v x.n x.cs) (l : Nat) : Bag B w' (upd f l (some x)) := by
  refine ⟨fun i y hy => ?_, fun i j y z hij hy hz q hq => ?_⟩
  · by_cases hil : i = l
    · subst hil
      rw [upd_at] at hy
      cases hy
      exact ho.mono hB
    · rw [upd_ne _ _ hil] at hy
      exact own_next (h.own i y hy) hb
  · by_cases hil : i = l
    · subst hil
      rw [upd_at] at hy
      cases hy
      rw [upd_ne _ _ (Ne.symm hij)] at hz
      have h1 := (ho.lt q hq).1
      intro e
      have h2 := ((h.own j z hz).lt q e).2
      omega
    · rw [upd_ne _ _ hil] at hy
      by_cases hjl : j = l
      · subst hjl
        rw [upd_at] at hz
        cases hz
        have h2 := ((h.own i y hy).lt q hq).2
        intro e
        have h1 := (ho.lt q e).1
        omega
      · rw [upd_ne _ _ hjl] at hz
        exact h.ne i j y z hij hy hz q hq
/-- One that is appended to. -/
theorem app (h : Bag B w f) {l g n' : Nat} {x : Lst} {v' : Value} {cs' : List Value} (hx : f l = some x) (ho : w'.ownsRow B x.T x.sz v' n' cs') (hg : w.grownBy w' x.v.ownBlock) (hat : x.v.ownBlock = some g ∨ g = w.heap.size) (hv : v'.ownBlock = some g) :
    Bag B w' (upd f l (some ⟨v', x.T, x.sz, n', cs'⟩)) := by
  have key : ∀ j z, j ≠ l → f j = some z → ∀ q, z.v.ownBlock = some q → q ≠ g := by
    intro j z hj hz q hq e
    subst e
    rcases hat with h1 | h1
    · exact h.ne j l z x hj hz hx q hq h1
    · have := ((h.own j z hz).lt q hq).2
      omega
  refine ⟨fun i y hy => ?_, fun i j y z hij hy hz q hq => ?_⟩
  · by_cases hil : i = l
    · subst hil
      rw [upd_at] at hy
      cases hy
      exact ho
    · rw [upd_ne _ _ hil] at hy
      refine (h.own i y hy).kept hg ?_
      cases hv' : y.v.ownBlock with
      | none => exact .inl rfl
      | some q => exact .inr (fun e => h.ne i l y x hil hy hx q hv' e.symm)
  · by_cases hil : i = l
    · subst hil
      rw [upd_at] at hy
      cases hy
      rw [upd_ne _ _ (Ne.symm hij)] at hz
      intro e
      have hq' : g = q := by rw [hv] at hq; cases hq; rfl
      exact key j z (Ne.symm hij) hz q e hq'.symm
    · rw [upd_ne _ _ hil] at hy
      by_cases hjl : j = l
      · subst hjl
        rw [upd_at] at hz
        cases hz
        intro e
        have hq' : g = q := by
          have : v'.ownBlock = some q := e
          rw [hv] at this; cases this; rfl
        exact key i y hil hy q hq hq'.symm
      · rw [upd_ne _ _ hjl] at hz
        exact h.ne i j y z hij hy hz q hq
end Bag

/-- Nothing has turned below B but the blocks a and b. -/
structure Keeps (a b B : Nat) (w w' : World) : Prop where
  mk ::
  os : w'.os = w.os
  tape : w'.tape = w.tape
  output : w'.output = w.output
  size : w.heap.size ≤ w'.heap.size
  block : ∀ q, q < B → q ≠ a → q ≠ b → w'.heap[q]? = w.heap[q]?
namespace Keeps
variable {a b B : Nat} {u w w' : World}
theorem refl (a b B : Nat) (w : World) : Keeps a b B w w := ⟨rfl, rfl, rfl, Nat.le_refl _, fun _ _ _ _ => rfl⟩
theorem next (h : Keeps a b B u w) (hB : B ≤ w.heap.size) (hb : Below w.heap.size w w') : Keeps a b B u w' :=
  ⟨hb.os.trans h.os, hb.tape.trans h.tape, hb.output.trans h.output, Nat.le_trans h.size hb.size, fun q h1 h2 h3 => (hb.block q (by omega)).trans (h.block q h1 h2 h3)⟩
theorem grown (h : Keeps a b B u w) (hB : B ≤ w.heap.size) {row : Option Nat} (hg : w.grownBy w' row) (hr : ∀ k, row = some k → B ≤ k) : Keeps a b B u w' :=
  ⟨hg.os.trans h.os, hg.tape.trans h.tape, hg.output.trans h.output, Nat.le_trans h.size hg.size, fun q h1 h2 h3 => (hg.block q (by omega) (fun e => by have := hr q e.symm; omega)).trans (h.block q h1 h2 h3)⟩
theorem store (h : Keeps a b B u w) {x o : Nat} (hx : x = a ∨ x = b) (v : Value) : Keeps a b B u (w.setCell ⟨x, o, none⟩ v) :=
  ⟨h.os, h.tape, h.output, by simpa [World.setCell] using h.size, fun q h1 h2 h3 => (Below.heap_setCell w ⟨x, o, none⟩ v q (by show q ≠ x; omega)).trans (h.block q h1 h2 h3)⟩
theorem below (h : Keeps a b B u w) {M : Nat} (ha : M ≤ a) (hb : M ≤ b) (hB : M ≤ B) : Below M u w := ⟨h.os, h.tape, h.output, h.size, fun q hq => h.block q (by omega) (by omega) (by omega)⟩
theorem less (h : Keeps a b B u w) {M : Nat} (hB : M ≤ B) : Keeps a b M u w := ⟨h.os, h.tape, h.output, h.size, fun q h1 h2 h3 => h.block q (by omega) h2 h3⟩
theorem trans (h : Keeps a b B u w) (k : Keeps a b B w w') : Keeps a b B u w' := ⟨k.os.trans h.os, k.tape.trans h.tape, k.output.trans h.output, Nat.le_trans h.size k.size, fun q h1 h2 h3 => (k.block q h1 h2 h3).trans (h.block q h1 h2 h3)⟩
theorem held (h : Keeps a b B u w) {F : Nat → Prop} (hF : ∀ q, F q → q < B ∧ q ≠ a ∧ q ≠ b) : Held F u w := ⟨h.size, fun q hq _ => h.block q (hF q hq).1 (hF q hq).2.1 (hF q hq).2.2⟩
end Keeps
/-- A region 'a.f, b.f = append(a.f, ..), append(b.f, ..)': its operations and slots, what stands at its start. -/
structure Cfg where
  B : Nat
  W0 : World
  bA : Nat
  bB : Nat
  OA : Value → Obj
  OB : Value → Obj
  va : Value
  vb : Value
  k : Nat
  XA : List Value
  XB : List Value
  TA : TypeId
  TB : TypeId
  sz : Nat
  ld1 : Nat
  ld2 : Nat
  o1 : Nat
  o2 : Nat
  b1 : Nat
  b2 : Nat
  p1 : Nat
  p2 : Nat
  s1 : Nat
  s2 : Nat
  do1 : Nat
  do2 : Nat
  db1 : Nat
  db2 : Nat
  dp1 : Nat
  dp2 : Nat
  own : Bool
  TO : TypeId
  no : Nat
  co : List Value
  l1 : Nat
  l2 : Nat
  NA : Value → List Value
  F0 : Nat → Option Lst
/-- Its operations, its slots and its labels are apart. -/
structure Cfg.Wf (c : Cfg) : Prop where
  mk ::
  ops : [c.o1, c.o2, c.b1, c.b2, c.p1, c.p2, c.s1, c.s2].Nodup
  lds : c.ld1 ≠ c.s1 ∧ c.ld1 ≠ c.s2 ∧ c.ld2 ≠ c.s1 ∧ c.ld2 ≠ c.s2
  slots : [c.do1, c.do2, c.db1, c.db2, c.dp1, c.dp2].Nodup
  lab : 6 ≤ c.l1 ∧ 6 ≤ c.l2 ∧ c.l1 ≠ c.l2
  boxes : c.bA < c.bB ∧ c.bB < c.B
/-- What holds at every stage of it: e: which operations have come up; t: the slots; f: the lists. -/
structure Ap (c : Cfg) (e : Nat → Bool) (t : Nat → Value) (f : Nat → Option Lst) (wr : World) : Prop where
  mk ::
  be : Keeps c.bA c.bB c.B c.W0 wr
  sz : c.B ≤ wr.heap.size
  xa : wr.heap[c.bA]? = some (c.OA (if e c.s1 = true then t c.dp1 else c.va))
  xb : wr.heap[c.bB]? = some (c.OB (if e c.s2 = true then t c.dp2 else c.vb))
  bag : Bag c.B wr f
  f0 : f 0 = some (if e c.p1 = true then ⟨t c.dp1, c.TA, c.sz, c.k + 1, c.XA ++ c.NA (t c.do1)⟩ else ⟨c.va, c.TA, c.sz, c.k, c.XA⟩)
  f1 : f 1 = some (if e c.p2 = true then ⟨t c.dp2, c.TB, c.sz, c.k + 1, c.XB ++ c.NA (t c.do2)⟩ else ⟨c.vb, c.TB, c.sz, c.k, c.XB⟩)
  g1 : e c.b1 = true → f 4 = some ⟨t c.db1, c.TA, c.sz, 1, c.NA (t c.do1)⟩ ∧ ∃ g, t c.db1 = .slice (some ⟨g, 0, none⟩) 1 1
  g2 : e c.b2 = true → f 5 = some ⟨t c.db2, c.TB, c.sz, 1, c.NA (t c.do2)⟩ ∧ ∃ g, t c.db2 = .slice (some ⟨g, 0, none⟩) 1 1
  q1 : c.own = true → e c.o1 = true → f c.l1 = some ⟨t c.do1, c.TO, 1, c.no, c.co⟩ ∧ ∃ A C, t c.do1 = .slice A c.no C
  q2 : c.own = true → e c.o2 = true → f c.l2 = some ⟨t c.do2, c.TO, 1, c.no, c.co⟩ ∧ ∃ A C, t c.do2 = .slice A c.no C
  rest : ∀ i, 6 ≤ i → (c.own = true → i ≠ c.l1 ∧ i ≠ c.l2) → f i = c.F0 i
  z1 : e c.s1 = true → e c.ld1 = true ∧ e c.p1 = true
  z2 : e c.s2 = true → e c.ld2 = true ∧ e c.p2 = true
  y1 : e c.p1 = true → e c.b1 = true
  y2 : e c.p2 = true → e c.b2 = true
  y3 : c.own = true → e c.b1 = true → e c.o1 = true
  y4 : c.own = true → e c.b2 = true → e c.o2 = true
theorem ne8 {a b c d e f g h : Nat} (hn : [a, b, c, d, e, f, g, h].Nodup) : (a ≠ b ∧ b ≠ a) ∧ (a ≠ c ∧ c ≠ a) ∧ (a ≠ d ∧ d ≠ a) ∧ (a ≠ e ∧ e ≠ a) ∧ (a ≠ f ∧ f ≠ a) ∧ (a ≠ g ∧ g ≠ a) ∧ (a ≠ h ∧ h ≠ a) ∧ (b ≠ c ∧ c ≠ b) ∧ (b ≠ d ∧ d ≠ b) ∧ (b ≠ e ∧ e ≠ b) ∧ (b ≠ f ∧ f ≠ b) ∧ (b ≠ g ∧ g ≠ b) ∧ (b ≠ h ∧ h ≠ b) ∧ (c ≠ d ∧ d ≠ c) ∧ (c ≠ e ∧ e ≠ c) ∧ (c ≠ f ∧ f ≠ c) ∧ (c ≠ g ∧ g ≠ c) ∧ (c ≠ h ∧ h ≠ c) ∧ (d ≠ e ∧ e ≠ d) ∧ (d ≠ f ∧ f ≠ d) ∧ (d ≠ g ∧ g ≠ d) ∧ (d ≠ h ∧ h ≠ d) ∧ (e ≠ f ∧ f ≠ e) ∧ (e ≠ g ∧ g ≠ e) ∧ (e ≠ h ∧ h ≠ e) ∧ (f ≠ g ∧ g ≠ f) ∧ (f ≠ h ∧ h ≠ f) ∧ (g ≠ h ∧ h ≠ g) := by
  simp at hn
  obtain ⟨⟨ab, ac, ad, ae, af, ag, ah⟩, ⟨bc, bd, be, bf, bg, bh⟩, ⟨cd, ce, cf, cg, ch⟩, ⟨de, df, dg, dh⟩, ⟨ef, eg, eh⟩, ⟨fg, fh⟩, gh⟩ := hn
  exact ⟨⟨ab, Ne.symm ab⟩, ⟨ac, Ne.symm ac⟩, ⟨ad, Ne.symm ad⟩, ⟨ae, Ne.symm ae⟩, ⟨af, Ne.symm af⟩, ⟨ag, Ne.symm ag⟩, ⟨ah, Ne.symm ah⟩, ⟨bc, Ne.symm bc⟩, ⟨bd, Ne.symm bd⟩, ⟨be, Ne.symm be⟩, ⟨bf, Ne.symm bf⟩, ⟨bg, Ne.symm bg⟩, ⟨bh, Ne.symm bh⟩, ⟨cd, Ne.symm cd⟩, ⟨ce, Ne.symm ce⟩, ⟨cf, Ne.symm cf⟩, ⟨cg, Ne.symm cg⟩, ⟨ch, Ne.symm ch⟩, ⟨de, Ne.symm de⟩, ⟨df, Ne.symm df⟩, ⟨dg, Ne.symm dg⟩, ⟨dh, Ne.symm dh⟩, ⟨ef, Ne.symm ef⟩, ⟨eg, Ne.symm eg⟩, ⟨eh, Ne.symm eh⟩, ⟨fg, Ne.symm fg⟩, ⟨fh, Ne.symm fh⟩, ⟨gh, Ne.symm gh⟩⟩
theorem ne6 {a b c d e f : Nat} (hn : [a, b, c, d, e, f].Nodup) : (a ≠ b ∧ b ≠ a) ∧ (a ≠ c ∧ c ≠ a) ∧ (a ≠ d ∧ d ≠ a) ∧ (a ≠ e ∧ e ≠ a) ∧ (a ≠ f ∧ f ≠ a) ∧ (b ≠ c ∧ c ≠ b) ∧ (b ≠ d ∧ d ≠ b) ∧ (b ≠ e ∧ e ≠ b) ∧ (b ≠ f ∧ f ≠ b) ∧ (c ≠ d ∧ d ≠ c) ∧ (c ≠ e ∧ e ≠ c) ∧ (c ≠ f ∧ f ≠ c) ∧ (d ≠ e ∧ e ≠ d) ∧ (d ≠ f ∧ f ≠ d) ∧ (e ≠ f ∧ f ≠ e) := by
  simp at hn
  obtain ⟨⟨ab, ac, ad, ae, af⟩, ⟨bc, bd, be, bf⟩, ⟨cd, ce, cf⟩, ⟨de, df⟩, ef⟩ := hn
  exact ⟨⟨ab, Ne.symm ab⟩, ⟨ac, Ne.symm ac⟩, ⟨ad, Ne.symm ad⟩, ⟨ae, Ne.symm ae⟩, ⟨af, Ne.symm af⟩, ⟨bc, Ne.symm bc⟩, ⟨bd, Ne.symm bd⟩, ⟨be, Ne.symm be⟩, ⟨bf, Ne.symm bf⟩, ⟨cd, Ne.symm cd⟩, ⟨ce, Ne.symm ce⟩, ⟨cf, Ne.symm cf⟩, ⟨de, Ne.symm de⟩, ⟨df, Ne.symm df⟩, ⟨ef, Ne.symm ef⟩⟩
namespace Ap
variable {c : Cfg} {e e' : Nat → Bool} {t t' : Nat → Value} {f : Nat → Option Lst} {wr w' : World}
theorem of (h : Ap c e t f wr) (h1 : e' c.s1 = e c.s1) (h2 : e' c.s2 = e c.s2) (h3 : e' c.p1 = e c.p1) (h4 : e' c.p2 = e c.p2) (h5 : e' c.b1 = e c.b1) (h6 : e' c.b2 = e c.b2)
    (h7 : c.own = true → e' c.o1 = e c.o1 ∧ e' c.o2 = e c.o2) (h8 : e c.ld1 = true → e' c.ld1 = true) (h9 : e c.ld2 = true → e' c.ld2 = true)
    (t1 : t' c.dp1 = t c.dp1) (t2 : t' c.dp2 = t c.dp2) (t3 : t' c.db1 = t c.db1) (t4 : t' c.db2 = t c.db2) (t5 : t' c.do1 = t c.do1) (t6 : t' c.do2 = t c.do2) : Ap c e' t' f wr := by
  obtain ⟨be, sz, xa, xb, bag, f0, f1, g1, g2, q1, q2, rest, z1, z2, y1, y2, y3, y4⟩ := h
  refine ⟨be, sz, ?_, ?_, bag, ?_, ?_, ?_, ?_, ?_, ?_, rest, ?_, ?_, ?_, ?_, ?_, ?_⟩
  · rw [h1, t1]; exact xa
  · rw [h2, t2]; exact xb
  · rw [h3, t1, t5]; exact f0
  · rw [h4, t2, t6]; exact f1
  · rw [h5, t3, t5]; exact g1
  · rw [h6, t4, t6]; exact g2
  · intro ho; rw [(h7 ho).1, t5]; exact q1 ho
  · intro ho; rw [(h7 ho).2, t6]; exact q2 ho
  · intro hh; rw [h1] at hh; exact ⟨h8 (z1 hh).1, by rw [h3]; exact (z1 hh).2⟩
  · intro hh; rw [h2] at hh; exact ⟨h9 (z2 hh).1, by rw [h4]; exact (z2 hh).2⟩
  · rw [h3, h5]; exact y1
  · rw [h4, h6]; exact y2
  · intro ho; rw [h5, (h7 ho).1]; exact y3 ho
  · intro ho; rw [h6, (h7 ho).2]; exact y4 ho
/-- New blocks alone. -/
theorem next (h : Ap c e t f wr) (hb : Below wr.heap.size wr w') : Ap c e t f w' :=
  ⟨h.be.next h.sz hb, Nat.le_trans h.sz hb.size, (hb.block _ (Array.getElem?_eq_some_iff.1 h.xa).1).trans h.xa, (hb.block _ (Array.getElem?_eq_some_iff.1 h.xb).1).trans h.xb, h.bag.next hb, h.f0, h.f1, h.g1, h.g2, h.q1, h.q2, h.rest, h.z1, h.z2, h.y1, h.y2, h.y3, h.y4⟩
/-- The list behind a label that matters to nobody else. -/
theorem relabel {f' : Nat → Option Lst} (h : Ap c e t f wr) (hb : Bag c.B w' f') (hw : Below wr.heap.size wr w') (hf : ∀ i, i = 0 ∨ i = 1 → f' i = f i) (h4 : e c.b1 = true → f' 4 = f 4) (h5 : e c.b2 = true → f' 5 = f 5)
    (hl1 : c.own = true → e c.o1 = true → f' c.l1 = f c.l1) (hl2 : c.own = true → e c.o2 = true → f' c.l2 = f c.l2) (hr : ∀ i, 6 ≤ i → (c.own = true → i ≠ c.l1 ∧ i ≠ c.l2) → f' i = f i) : Ap c e t f' w' := by
  obtain ⟨be, sz, xa, xb, bag, f0, f1, g1, g2, q1, q2, rest, z1, z2, y1, y2, y3, y4⟩ := h.next hw
  refine ⟨be, sz, xa, xb, hb, (hf 0 (.inl rfl)).trans f0, (hf 1 (.inr rfl)).trans f1, ?_, ?_, ?_, ?_, ?_, z1, z2, y1, y2, y3, y4⟩
  · intro hh; rw [h4 hh]; exact g1 hh
  · intro hh; rw [h5 hh]; exact g2 hh
  · intro ho hh; rw [hl1 ho hh]; exact q1 ho hh
  · intro ho hh; rw [hl2 ho hh]; exact q2 ho hh
  · intro i hi hn; rw [hr i hi hn]; exact rest i hi hn
theorem own1 (h : Ap c e t f wr) (hw : c.Wf) (ho : c.own = true) (he : e c.o1 = false) {A : Option Addr} {C : Nat} (hr : w'.ownsRow wr.heap.size c.TO 1 (.slice A c.no C) c.no c.co) (hb : Below wr.heap.size wr w') :
    Ap c (upd e c.o1 true) (upd t c.do1 (.slice A c.no C)) (upd f c.l1 (some ⟨.slice A c.no C, c.TO, 1, c.no, c.co⟩)) w' := by
  obtain ⟨⟨o0, o0s⟩, ⟨o1, o1s⟩, ⟨o2, o2s⟩, ⟨o3, o3s⟩, ⟨o4, o4s⟩, ⟨o5, o5s⟩, ⟨o6, o6s⟩, ⟨o7, o7s⟩, ⟨o8, o8s⟩, ⟨o9, o9s⟩, ⟨o10, o10s⟩, ⟨o11, o11s⟩, ⟨o12, o12s⟩, ⟨o13, o13s⟩, ⟨o14, o14s⟩, ⟨o15, o15s⟩, ⟨o16, o16s⟩, ⟨o17, o17s⟩, ⟨o18, o18s⟩, ⟨o19, o19s⟩, ⟨o20, o20s⟩, ⟨o21, o21s⟩, ⟨o22, o22s⟩, ⟨o23, o23s⟩, ⟨o24, o24s⟩, ⟨o25, o25s⟩, ⟨o26, o26s⟩, ⟨o27, o27s⟩⟩ := ne8 hw.ops
  obtain ⟨⟨s0, s0s⟩, ⟨s1, s1s⟩, ⟨s2, s2s⟩, ⟨s3, s3s⟩, ⟨s4, s4s⟩, ⟨s5, s5s⟩, ⟨s6, s6s⟩, ⟨s7, s7s⟩, ⟨s8, s8s⟩, ⟨s9, s9s⟩, ⟨s10, s10s⟩, ⟨s11, s11s⟩, ⟨s12, s12s⟩, ⟨s13, s13s⟩, ⟨s14, s14s⟩⟩ := ne6 hw.slots
  have L := hw.lab
  have eb : e c.b1 = false := by cases hh : e c.b1 with
    | false => rfl
    | true => rw [h.y3 ho hh] at he; cases he
  have ep : e c.p1 = false := by cases hh : e c.p1 with
    | false => rfl
    | true => rw [h.y1 hh] at eb; cases eb
  obtain ⟨be, sz, xa, xb, bag, f0, f1, g1, g2, q1, q2, rest, z1, z2, y1, y2, y3, y4⟩ := h.next hb
  have hB : c.B ≤ wr.heap.size := h.sz
  refine ⟨be, sz, ?_, ?_, h.bag.push hB hb (x := ⟨.slice A c.no C, c.TO, 1, c.no, c.co⟩) hr c.l1, ?_, ?_, ?_, ?_, ?_, ?_, ?_, ?_, ?_, ?_, ?_, ?_, ?_⟩
  · rw [upd_ne _ _ (by first | assumption | omega), upd_ne _ _ (by first | assumption | omega)]; exact xa
  · rw [upd_ne _ _ (by first | assumption | omega), upd_ne _ _ (by first | assumption | omega)]; exact xb
  · rw [upd_ne _ _ (show (0 : Nat) ≠ c.l1 by omega), upd_ne e true (show c.p1 ≠ c.o1 by assumption)]
    rw [ep] at f0 ⊢; exact f0
  · rw [upd_ne _ _ (show (1 : Nat) ≠ c.l1 by omega), upd_ne e true (show c.p2 ≠ c.o1 by assumption)]
    rw [upd_ne t _ (show c.dp2 ≠ c.do1 by assumption), upd_ne t _ (show c.do2 ≠ c.do1 by assumption)]; exact f1
  · intro hh
    rw [upd_ne _ _ (by first | assumption | omega)] at hh
    rw [eb] at hh; cases hh
  · intro hh
    rw [upd_ne _ _ (by first | assumption | omega)] at hh
    rw [upd_ne _ _ (show (5 : Nat) ≠ c.l1 by omega), upd_ne t _ (show c.db2 ≠ c.do1 by assumption), upd_ne t _ (show c.do2 ≠ c.do1 by assumption)]; exact g2 hh
  · intro _ hh
    rw [upd_at, upd_at]; exact ⟨rfl, A, C, rfl⟩
  · intro _ hh
    rw [upd_ne _ _ (by first | assumption | omega)] at hh; rw [upd_ne _ _ (show c.l2 ≠ c.l1 by omega), upd_ne t _ (show c.do2 ≠ c.do1 by assumption)]; exact q2 ho hh
  · intro i hi hn; rw [upd_ne _ _ ((hn ho).1)]; exact rest i hi hn
  · intro hh; rw [upd_ne _ _ (by first | assumption | omega)] at hh; refine ⟨?_, by rw [upd_ne _ _ (by first | assumption | omega)]; exact (z1 hh).2⟩
    by_cases hl : c.ld1 = c.o1
    · rw [hl, upd_at]
    · rw [upd_ne _ _ hl]; exact (z1 hh).1
  · intro hh; rw [upd_ne _ _ (by first | assumption | omega)] at hh; refine ⟨?_, by rw [upd_ne _ _ (by first | assumption | omega)]; exact (z2 hh).2⟩
    by_cases hl : c.ld2 = c.o1
    · rw [hl, upd_at]
    · rw [upd_ne _ _ hl]; exact (z2 hh).1
  · intro hh; rw [upd_ne _ _ (by first | assumption | omega)] at hh; rw [upd_ne _ _ (by first | assumption | omega)]; exact y1 hh
  · intro hh; rw [upd_ne _ _ (by first | assumption | omega)] at hh; rw [upd_ne _ _ (by first | assumption | omega)]; exact y2 hh
  · intro _ hh; rw [upd_ne _ _ (by first | assumption | omega)] at hh; rw [upd_at]
  · intro _ hh; rw [upd_ne _ _ (by first | assumption | omega)] at hh; rw [upd_ne _ _ (by first | assumption | omega)]; exact y4 ho hh
theorem own2 (h : Ap c e t f wr) (hw : c.Wf) (ho : c.own = true) (he : e c.o2 = false) {A : Option Addr} {C : Nat} (hr : w'.ownsRow wr.heap.size c.TO 1 (.slice A c.no C) c.no c.co) (hb : Below wr.heap.size wr w') :
    Ap c (upd e c.o2 true) (upd t c.do2 (.slice A c.no C)) (upd f c.l2 (some ⟨.slice A c.no C, c.TO, 1, c.no, c.co⟩)) w' := by
  obtain ⟨⟨o0, o0s⟩, ⟨o1, o1s⟩, ⟨o2, o2s⟩, ⟨o3, o3s⟩, ⟨o4, o4s⟩, ⟨o5, o5s⟩, ⟨o6, o6s⟩, ⟨o7, o7s⟩, ⟨o8, o8s⟩, ⟨o9, o9s⟩, ⟨o10, o10s⟩, ⟨o11, o11s⟩, ⟨o12, o12s⟩, ⟨o13, o13s⟩, ⟨o14, o14s⟩, ⟨o15, o15s⟩, ⟨o16, o16s⟩, ⟨o17, o17s⟩, ⟨o18, o18s⟩, ⟨o19, o19s⟩, ⟨o20, o20s⟩, ⟨o21, o21s⟩, ⟨o22, o22s⟩, ⟨o23, o23s⟩, ⟨o24, o24s⟩, ⟨o25, o25s⟩, ⟨o26, o26s⟩, ⟨o27, o27s⟩⟩ := ne8 hw.ops
  obtain ⟨⟨s0, s0s⟩, ⟨s1, s1s⟩, ⟨s2, s2s⟩, ⟨s3, s3s⟩, ⟨s4, s4s⟩, ⟨s5, s5s⟩, ⟨s6, s6s⟩, ⟨s7, s7s⟩, ⟨s8, s8s⟩, ⟨s9, s9s⟩, ⟨s10, s10s⟩, ⟨s11, s11s⟩, ⟨s12, s12s⟩, ⟨s13, s13s⟩, ⟨s14, s14s⟩⟩ := ne6 hw.slots
  have L := hw.lab
  have eb : e c.b2 = false := by cases hh : e c.b2 with
    | false => rfl
    | true => rw [h.y4 ho hh] at he; cases he
  have ep : e c.p2 = false := by cases hh : e c.p2 with
    | false => rfl
    | true => rw [h.y2 hh] at eb; cases eb
  obtain ⟨be, sz, xa, xb, bag, f0, f1, g1, g2, q1, q2, rest, z1, z2, y1, y2, y3, y4⟩ := h.next hb
  have hB : c.B ≤ wr.heap.size := h.sz
  refine ⟨be, sz, ?_, ?_, h.bag.push hB hb (x := ⟨.slice A c.no C, c.TO, 1, c.no, c.co⟩) hr c.l2, ?_, ?_, ?_, ?_, ?_, ?_, ?_, ?_, ?_, ?_, ?_, ?_, ?_⟩
  · rw [upd_ne _ _ (by first | assumption | omega), upd_ne _ _ (by first | assumption | omega)]; exact xa
  · rw [upd_ne _ _ (by first | assumption | omega), upd_ne _ _ (by first | assumption | omega)]; exact xb
  · rw [upd_ne _ _ (show (0 : Nat) ≠ c.l2 by omega), upd_ne e true (show c.p1 ≠ c.o2 by assumption)]
    rw [upd_ne t _ (show c.dp1 ≠ c.do2 by assumption), upd_ne t _ (show c.do1 ≠ c.do2 by assumption)]; exact f0
  · rw [upd_ne _ _ (show (1 : Nat) ≠ c.l2 by omega), upd_ne e true (show c.p2 ≠ c.o2 by assumption)]
    rw [ep] at f1 ⊢; exact f1
  · intro hh
    rw [upd_ne _ _ (by first | assumption | omega)] at hh
    rw [upd_ne _ _ (show (4 : Nat) ≠ c.l2 by omega), upd_ne t _ (show c.db1 ≠ c.do2 by assumption), upd_ne t _ (show c.do1 ≠ c.do2 by assumption)]; exact g1 hh
  · intro hh
    rw [upd_ne _ _ (by first | assumption | omega)] at hh
    rw [eb] at hh; cases hh
  · intro _ hh
    rw [upd_ne _ _ (by first | assumption | omega)] at hh; rw [upd_ne _ _ (show c.l1 ≠ c.l2 by omega), upd_ne t _ (show c.do1 ≠ c.do2 by assumption)]; exact q1 ho hh
  · intro _ hh
    rw [upd_at, upd_at]; exact ⟨rfl, A, C, rfl⟩
  · intro i hi hn; rw [upd_ne _ _ ((hn ho).2)]; exact rest i hi hn
  · intro hh; rw [upd_ne _ _ (by first | assumption | omega)] at hh; refine ⟨?_, by rw [upd_ne _ _ (by first | assumption | omega)]; exact (z1 hh).2⟩
    by_cases hl : c.ld1 = c.o2
    · rw [hl, upd_at]
    · rw [upd_ne _ _ hl]; exact (z1 hh).1
  · intro hh; rw [upd_ne _ _ (by first | assumption | omega)] at hh; refine ⟨?_, by rw [upd_ne _ _ (by first | assumption | omega)]; exact (z2 hh).2⟩
    by_cases hl : c.ld2 = c.o2
    · rw [hl, upd_at]
    · rw [upd_ne _ _ hl]; exact (z2 hh).1
  · intro hh; rw [upd_ne _ _ (by first | assumption | omega)] at hh; rw [upd_ne _ _ (by first | assumption | omega)]; exact y1 hh
  · intro hh; rw [upd_ne _ _ (by first | assumption | omega)] at hh; rw [upd_ne _ _ (by first | assumption | omega)]; exact y2 hh
  · intro _ hh; rw [upd_ne _ _ (by first | assumption | omega)] at hh; rw [upd_ne _ _ (by first | assumption | omega)]; exact y3 ho hh
  · intro _ hh; rw [upd_ne _ _ (by first | assumption | omega)] at hh; rw [upd_at]
theorem made1 (h : Ap c e t f wr) (hw : c.Wf) (ho : c.own = true → e c.o1 = true) (hl : (c.NA (t c.do1)).length = c.sz) {cs : Array Value} (hcs : cs.toList = c.NA (t c.do1)) :
    Ap c (upd e c.b1 true) (upd t c.db1 (.slice (some ⟨wr.heap.size, 0, none⟩) 1 1)) (upd f 4 (some ⟨.slice (some ⟨wr.heap.size, 0, none⟩) 1 1, c.TA, c.sz, 1, c.NA (t c.do1)⟩)) (wr.alloc (.cells cs c.TA)) := by
  obtain ⟨⟨o0, o0s⟩, ⟨o1, o1s⟩, ⟨o2, o2s⟩, ⟨o3, o3s⟩, ⟨o4, o4s⟩, ⟨o5, o5s⟩, ⟨o6, o6s⟩, ⟨o7, o7s⟩, ⟨o8, o8s⟩, ⟨o9, o9s⟩, ⟨o10, o10s⟩, ⟨o11, o11s⟩, ⟨o12, o12s⟩, ⟨o13, o13s⟩, ⟨o14, o14s⟩, ⟨o15, o15s⟩, ⟨o16, o16s⟩, ⟨o17, o17s⟩, ⟨o18, o18s⟩, ⟨o19, o19s⟩, ⟨o20, o20s⟩, ⟨o21, o21s⟩, ⟨o22, o22s⟩, ⟨o23, o23s⟩, ⟨o24, o24s⟩, ⟨o25, o25s⟩, ⟨o26, o26s⟩, ⟨o27, o27s⟩⟩ := ne8 hw.ops
  obtain ⟨⟨s0, s0s⟩, ⟨s1, s1s⟩, ⟨s2, s2s⟩, ⟨s3, s3s⟩, ⟨s4, s4s⟩, ⟨s5, s5s⟩, ⟨s6, s6s⟩, ⟨s7, s7s⟩, ⟨s8, s8s⟩, ⟨s9, s9s⟩, ⟨s10, s10s⟩, ⟨s11, s11s⟩, ⟨s12, s12s⟩, ⟨s13, s13s⟩, ⟨s14, s14s⟩⟩ := ne6 hw.slots
  have L := hw.lab
  have hb := new_below wr (.cells cs c.TA)
  have hr : (wr.alloc (.cells cs c.TA)).ownsRow wr.heap.size c.TA c.sz (.slice (some ⟨wr.heap.size, 0, none⟩) 1 1) 1 (c.NA (t c.do1)) := by
    rw [← hcs]
    exact World.ownsRow_lit wr cs 1 (Nat.le_refl _) (by unfold maxLen; omega) (by rw [← Array.length_toList, hcs, hl]; omega)
  obtain ⟨be, sz, xa, xb, bag, f0, f1, g1, g2, q1, q2, rest, z1, z2, y1, y2, y3, y4⟩ := h.next hb
  have hB : c.B ≤ wr.heap.size := h.sz
  refine ⟨be, sz, ?_, ?_, h.bag.push hB hb (x := ⟨.slice (some ⟨wr.heap.size, 0, none⟩) 1 1, c.TA, c.sz, 1, c.NA (t c.do1)⟩) hr 4, ?_, ?_, ?_, ?_, ?_, ?_, ?_, ?_, ?_, ?_, ?_, ?_, ?_⟩
  · rw [upd_ne _ _ (by first | assumption | omega), upd_ne _ _ (by first | assumption | omega)]; exact xa
  · rw [upd_ne _ _ (by first | assumption | omega), upd_ne _ _ (by first | assumption | omega)]; exact xb
  · rw [upd_ne f _ (show (0 : Nat) ≠ 4 by omega), upd_ne e true (show c.p1 ≠ c.b1 by assumption), upd_ne t _ (show c.dp1 ≠ c.db1 by assumption), upd_ne t _ (show c.do1 ≠ c.db1 by assumption)]; exact f0
  · rw [upd_ne f _ (show (1 : Nat) ≠ 4 by omega), upd_ne e true (show c.p2 ≠ c.b1 by assumption), upd_ne t _ (show c.dp2 ≠ c.db1 by assumption), upd_ne t _ (show c.do2 ≠ c.db1 by assumption)]; exact f1
  · intro hh
    rw [upd_at, upd_at, upd_ne t _ (show c.do1 ≠ c.db1 by assumption)]; exact ⟨rfl, _, rfl⟩
  · intro hh
    rw [upd_ne _ _ (by first | assumption | omega)] at hh; rw [upd_ne f _ (show (5 : Nat) ≠ 4 by omega), upd_ne t _ (show c.db2 ≠ c.db1 by assumption), upd_ne t _ (show c.do2 ≠ c.db1 by assumption)]; exact g2 hh
  · intro ho' hh; rw [upd_ne _ _ (by first | assumption | omega)] at hh; rw [upd_ne f _ (show c.l1 ≠ 4 by omega), upd_ne t _ (show c.do1 ≠ c.db1 by assumption)]; exact q1 ho' hh
  · intro ho' hh; rw [upd_ne _ _ (by first | assumption | omega)] at hh; rw [upd_ne f _ (show c.l2 ≠ 4 by omega), upd_ne t _ (show c.do2 ≠ c.db1 by assumption)]; exact q2 ho' hh
  · intro i hi hn; rw [upd_ne _ _ (by first | assumption | omega)]; exact rest i hi hn
  · intro hh; rw [upd_ne _ _ (by first | assumption | omega)] at hh; refine ⟨?_, by rw [upd_ne _ _ (by first | assumption | omega)]; exact (z1 hh).2⟩
    by_cases hl : c.ld1 = c.b1
    · rw [hl, upd_at]
    · rw [upd_ne _ _ hl]; exact (z1 hh).1
  · intro hh; rw [upd_ne _ _ (by first | assumption | omega)] at hh; refine ⟨?_, by rw [upd_ne _ _ (by first | assumption | omega)]; exact (z2 hh).2⟩
    by_cases hl : c.ld2 = c.b1
    · rw [hl, upd_at]
    · rw [upd_ne _ _ hl]; exact (z2 hh).1
  · intro hh; rw [upd_ne _ _ (by first | assumption | omega)] at hh; rw [upd_at]
  · intro hh; rw [upd_ne _ _ (by first | assumption | omega)] at hh; rw [upd_ne _ _ (by first | assumption | omega)]; exact y2 hh
  · intro ho' hh; rw [upd_ne _ _ (show c.o1 ≠ c.b1 by assumption)]; exact ho ho'
  · intro ho' hh; rw [upd_ne _ _ (show c.o2 ≠ c.b1 by assumption)]; rw [upd_ne _ _ (by first | assumption | omega)] at hh; exact y4 ho' hh
theorem made2 (h : Ap c e t f wr) (hw : c.Wf) (ho : c.own = true → e c.o2 = true) (hl : (c.NA (t c.do2)).length = c.sz) {cs : Array Value} (hcs : cs.toList = c.NA (t c.do2)) :
    Ap c (upd e c.b2 true) (upd t c.db2 (.slice (some ⟨wr.heap.size, 0, none⟩) 1 1)) (upd f 5 (some ⟨.slice (some ⟨wr.heap.size, 0, none⟩) 1 1, c.TB, c.sz, 1, c.NA (t c.do2)⟩)) (wr.alloc (.cells cs c.TB)) := by
  obtain ⟨⟨o0, o0s⟩, ⟨o1, o1s⟩, ⟨o2, o2s⟩, ⟨o3, o3s⟩, ⟨o4, o4s⟩, ⟨o5, o5s⟩, ⟨o6, o6s⟩, ⟨o7, o7s⟩, ⟨o8, o8s⟩, ⟨o9, o9s⟩, ⟨o10, o10s⟩, ⟨o11, o11s⟩, ⟨o12, o12s⟩, ⟨o13, o13s⟩, ⟨o14, o14s⟩, ⟨o15, o15s⟩, ⟨o16, o16s⟩, ⟨o17, o17s⟩, ⟨o18, o18s⟩, ⟨o19, o19s⟩, ⟨o20, o20s⟩, ⟨o21, o21s⟩, ⟨o22, o22s⟩, ⟨o23, o23s⟩, ⟨o24, o24s⟩, ⟨o25, o25s⟩, ⟨o26, o26s⟩, ⟨o27, o27s⟩⟩ := ne8 hw.ops
  obtain ⟨⟨s0, s0s⟩, ⟨s1, s1s⟩, ⟨s2, s2s⟩, ⟨s3, s3s⟩, ⟨s4, s4s⟩, ⟨s5, s5s⟩, ⟨s6, s6s⟩, ⟨s7, s7s⟩, ⟨s8, s8s⟩, ⟨s9, s9s⟩, ⟨s10, s10s⟩, ⟨s11, s11s⟩, ⟨s12, s12s⟩, ⟨s13, s13s⟩, ⟨s14, s14s⟩⟩ := ne6 hw.slots
  have L := hw.lab
  have hb := new_below wr (.cells cs c.TB)
  have hr : (wr.alloc (.cells cs c.TB)).ownsRow wr.heap.size c.TB c.sz (.slice (some ⟨wr.heap.size, 0, none⟩) 1 1) 1 (c.NA (t c.do2)) := by
    rw [← hcs]
    exact World.ownsRow_lit wr cs 1 (Nat.le_refl _) (by unfold maxLen; omega) (by rw [← Array.length_toList, hcs, hl]; omega)
  obtain ⟨be, sz, xa, xb, bag, f0, f1, g1, g2, q1, q2, rest, z1, z2, y1, y2, y3, y4⟩ := h.next hb
  have hB : c.B ≤ wr.heap.size := h.sz
  refine ⟨be, sz, ?_, ?_, h.bag.push hB hb (x := ⟨.slice (some ⟨wr.heap.size, 0, none⟩) 1 1, c.TB, c.sz, 1, c.NA (t c.do2)⟩) hr 5, ?_, ?_, ?_, ?_, ?_, ?_, ?_, ?_, ?_, ?_, ?_, ?_, ?_⟩
  · rw [upd_ne _ _ (by first | assumption | omega), upd_ne _ _ (by first | assumption | omega)]; exact xa
  · rw [upd_ne _ _ (by first | assumption | omega), upd_ne _ _ (by first | assumption | omega)]; exact xb
  · rw [upd_ne f _ (show (0 : Nat) ≠ 5 by omega), upd_ne e true (show c.p1 ≠ c.b2 by assumption), upd_ne t _ (show c.dp1 ≠ c.db2 by assumption), upd_ne t _ (show c.do1 ≠ c.db2 by assumption)]; exact f0
  · rw [upd_ne f _ (show (1 : Nat) ≠ 5 by omega), upd_ne e true (show c.p2 ≠ c.b2 by assumption), upd_ne t _ (show c.dp2 ≠ c.db2 by assumption), upd_ne t _ (show c.do2 ≠ c.db2 by assumption)]; exact f1
  · intro hh
    rw [upd_ne _ _ (by first | assumption | omega)] at hh; rw [upd_ne f _ (show (4 : Nat) ≠ 5 by omega), upd_ne t _ (show c.db1 ≠ c.db2 by assumption), upd_ne t _ (show c.do1 ≠ c.db2 by assumption)]; exact g1 hh
  · intro hh
    rw [upd_at, upd_at, upd_ne t _ (show c.do2 ≠ c.db2 by assumption)]; exact ⟨rfl, _, rfl⟩
  · intro ho' hh; rw [upd_ne _ _ (by first | assumption | omega)] at hh; rw [upd_ne f _ (show c.l1 ≠ 5 by omega), upd_ne t _ (show c.do1 ≠ c.db2 by assumption)]; exact q1 ho' hh
  · intro ho' hh; rw [upd_ne _ _ (by first | assumption | omega)] at hh; rw [upd_ne f _ (show c.l2 ≠ 5 by omega), upd_ne t _ (show c.do2 ≠ c.db2 by assumption)]; exact q2 ho' hh
  · intro i hi hn; rw [upd_ne _ _ (by first | assumption | omega)]; exact rest i hi hn
  · intro hh; rw [upd_ne _ _ (by first | assumption | omega)] at hh; refine ⟨?_, by rw [upd_ne _ _ (by first | assumption | omega)]; exact (z1 hh).2⟩
    by_cases hl : c.ld1 = c.b2
    · rw [hl, upd_at]
    · rw [upd_ne _ _ hl]; exact (z1 hh).1
  · intro hh; rw [upd_ne _ _ (by first | assumption | omega)] at hh; refine ⟨?_, by rw [upd_ne _ _ (by first | assumption | omega)]; exact (z2 hh).2⟩
    by_cases hl : c.ld2 = c.b2
    · rw [hl, upd_at]
    · rw [upd_ne _ _ hl]; exact (z2 hh).1
  · intro hh; rw [upd_ne _ _ (by first | assumption | omega)] at hh; rw [upd_ne _ _ (by first | assumption | omega)]; exact y1 hh
  · intro hh; rw [upd_ne _ _ (by first | assumption | omega)] at hh; rw [upd_at]
  · intro ho' hh; rw [upd_ne _ _ (show c.o1 ≠ c.b2 by assumption)]; rw [upd_ne _ _ (by first | assumption | omega)] at hh; exact y3 ho' hh
  · intro ho' hh; rw [upd_ne _ _ (show c.o2 ≠ c.b2 by assumption)]; exact ho ho'
theorem app1 (h : Ap c e t f wr) (hw : c.Wf) (he : e c.p1 = false) (heb : e c.b1 = true) {g cap : Nat} (hr : w'.ownsRow c.B c.TA c.sz (.slice (some ⟨g, 0, none⟩) (c.k + 1) cap) (c.k + 1) (c.XA ++ c.NA (t c.do1))) (hg : wr.grownBy w' c.va.ownBlock) (hat : c.va.ownBlock = some g ∨ g = wr.heap.size) :
    Ap c (upd e c.p1 true) (upd t c.dp1 (.slice (some ⟨g, 0, none⟩) (c.k + 1) cap)) (upd f 0 (some ⟨.slice (some ⟨g, 0, none⟩) (c.k + 1) cap, c.TA, c.sz, c.k + 1, c.XA ++ c.NA (t c.do1)⟩)) w' := by
  obtain ⟨⟨o0, o0s⟩, ⟨o1, o1s⟩, ⟨o2, o2s⟩, ⟨o3, o3s⟩, ⟨o4, o4s⟩, ⟨o5, o5s⟩, ⟨o6, o6s⟩, ⟨o7, o7s⟩, ⟨o8, o8s⟩, ⟨o9, o9s⟩, ⟨o10, o10s⟩, ⟨o11, o11s⟩, ⟨o12, o12s⟩, ⟨o13, o13s⟩, ⟨o14, o14s⟩, ⟨o15, o15s⟩, ⟨o16, o16s⟩, ⟨o17, o17s⟩, ⟨o18, o18s⟩, ⟨o19, o19s⟩, ⟨o20, o20s⟩, ⟨o21, o21s⟩, ⟨o22, o22s⟩, ⟨o23, o23s⟩, ⟨o24, o24s⟩, ⟨o25, o25s⟩, ⟨o26, o26s⟩, ⟨o27, o27s⟩⟩ := ne8 hw.ops
  obtain ⟨⟨s0, s0s⟩, ⟨s1, s1s⟩, ⟨s2, s2s⟩, ⟨s3, s3s⟩, ⟨s4, s4s⟩, ⟨s5, s5s⟩, ⟨s6, s6s⟩, ⟨s7, s7s⟩, ⟨s8, s8s⟩, ⟨s9, s9s⟩, ⟨s10, s10s⟩, ⟨s11, s11s⟩, ⟨s12, s12s⟩, ⟨s13, s13s⟩, ⟨s14, s14s⟩⟩ := ne6 hw.slots
  have L := hw.lab
  have Bx := hw.boxes
  have es : e c.s1 = false := by cases hh : e c.s1 with
    | false => rfl
    | true => rw [(h.z1 hh).2] at he; cases he
  obtain ⟨be, sz, xa, xb, bag, f0, f1, g1, g2, q1, q2, rest, z1, z2, y1, y2, y3, y4⟩ := h
  have fl : f 0 = some ⟨c.va, c.TA, c.sz, c.k, c.XA⟩ := by rw [f0, he]; rfl
  have hlt := (bag.own 0 _ fl).lt
  have nb : ∀ q, q < c.B → w'.heap[q]? = wr.heap[q]? := fun q hq => hg.block q (by first | assumption | omega) (fun e => by have := (hlt q e.symm).1; omega)
  have hbag := bag.app (g := g) (v' := .slice (some ⟨g, 0, none⟩) (c.k + 1) cap) fl hr hg hat rfl
  refine ⟨be.grown sz hg (fun q hq => (hlt q hq).1), Nat.le_trans sz hg.size, ?_, ?_, hbag, ?_, ?_, ?_, ?_, ?_, ?_, ?_, ?_, ?_, ?_, ?_, ?_, ?_⟩
  · rw [upd_ne e _ (by first | assumption | omega), es, nb _ (by first | assumption | omega)]; rw [es] at xa; exact xa
  · rw [upd_ne e _ (by first | assumption | omega), upd_ne t _ (by first | assumption | omega), nb _ (by first | assumption | omega)]; exact xb
  · rw [upd_at, upd_at, if_pos rfl, upd_at, upd_ne t _ (show c.do1 ≠ c.dp1 by assumption)]
  · rw [upd_ne f _ (show (1 : Nat) ≠ 0 by omega), upd_ne e true (show c.p2 ≠ c.p1 by assumption), upd_ne t _ (show c.dp2 ≠ c.dp1 by assumption), upd_ne t _ (show c.do2 ≠ c.dp1 by assumption)]; exact f1
  · intro hh; rw [upd_ne _ _ (by first | assumption | omega)] at hh; rw [upd_ne f _ (show (4 : Nat) ≠ 0 by omega), upd_ne t _ (show c.db1 ≠ c.dp1 by assumption), upd_ne t _ (show c.do1 ≠ c.dp1 by assumption)]; exact g1 hh
  · intro hh; rw [upd_ne _ _ (by first | assumption | omega)] at hh; rw [upd_ne f _ (show (5 : Nat) ≠ 0 by omega), upd_ne t _ (show c.db2 ≠ c.dp1 by assumption), upd_ne t _ (show c.do2 ≠ c.dp1 by assumption)]; exact g2 hh
  · intro ho' hh; rw [upd_ne _ _ (by first | assumption | omega)] at hh; rw [upd_ne f _ (show c.l1 ≠ 0 by omega), upd_ne t _ (show c.do1 ≠ c.dp1 by assumption)]; exact q1 ho' hh
  · intro ho' hh; rw [upd_ne _ _ (by first | assumption | omega)] at hh; rw [upd_ne f _ (show c.l2 ≠ 0 by omega), upd_ne t _ (show c.do2 ≠ c.dp1 by assumption)]; exact q2 ho' hh
  · intro i hi hn; rw [upd_ne _ _ (by first | assumption | omega)]; exact rest i hi hn
  · intro hh; rw [upd_ne _ _ (by first | assumption | omega)] at hh; rw [es] at hh; cases hh
    
  · intro hh; rw [upd_ne _ _ (by first | assumption | omega)] at hh; refine ⟨?_, by rw [upd_ne _ _ (by first | assumption | omega)]; exact (z2 hh).2⟩; by_cases hl : c.ld2 = c.p1; · rw [hl, upd_at]
    rw [upd_ne _ _ hl]; exact (z2 hh).1
  · intro hh; rw [upd_ne _ _ (show c.b1 ≠ c.p1 by assumption)]; exact heb
  · intro hh; rw [upd_ne _ _ (show c.b2 ≠ c.p1 by assumption)]; rw [upd_ne _ _ (by first | assumption | omega)] at hh; exact y2 hh
  · intro ho' hh; rw [upd_ne _ _ (by first | assumption | omega)] at hh ⊢; exact y3 ho' hh
  · intro ho' hh; rw [upd_ne _ _ (by first | assumption | omega)] at hh ⊢; exact y4 ho' hh
theorem app2 (h : Ap c e t f wr) (hw : c.Wf) (he : e c.p2 = false) (heb : e c.b2 = true) {g cap : Nat} (hr : w'.ownsRow c.B c.TB c.sz (.slice (some ⟨g, 0, none⟩) (c.k + 1) cap) (c.k + 1) (c.XB ++ c.NA (t c.do2))) (hg : wr.grownBy w' c.vb.ownBlock) (hat : c.vb.ownBlock = some g ∨ g = wr.heap.size) :
    Ap c (upd e c.p2 true) (upd t c.dp2 (.slice (some ⟨g, 0, none⟩) (c.k + 1) cap)) (upd f 1 (some ⟨.slice (some ⟨g, 0, none⟩) (c.k + 1) cap, c.TB, c.sz, c.k + 1, c.XB ++ c.NA (t c.do2)⟩)) w' := by
  obtain ⟨⟨o0, o0s⟩, ⟨o1, o1s⟩, ⟨o2, o2s⟩, ⟨o3, o3s⟩, ⟨o4, o4s⟩, ⟨o5, o5s⟩, ⟨o6, o6s⟩, ⟨o7, o7s⟩, ⟨o8, o8s⟩, ⟨o9, o9s⟩, ⟨o10, o10s⟩, ⟨o11, o11s⟩, ⟨o12, o12s⟩, ⟨o13, o13s⟩, ⟨o14, o14s⟩, ⟨o15, o15s⟩, ⟨o16, o16s⟩, ⟨o17, o17s⟩, ⟨o18, o18s⟩, ⟨o19, o19s⟩, ⟨o20, o20s⟩, ⟨o21, o21s⟩, ⟨o22, o22s⟩, ⟨o23, o23s⟩, ⟨o24, o24s⟩, ⟨o25, o25s⟩, ⟨o26, o26s⟩, ⟨o27, o27s⟩⟩ := ne8 hw.ops
  obtain ⟨⟨s0, s0s⟩, ⟨s1, s1s⟩, ⟨s2, s2s⟩, ⟨s3, s3s⟩, ⟨s4, s4s⟩, ⟨s5, s5s⟩, ⟨s6, s6s⟩, ⟨s7, s7s⟩, ⟨s8, s8s⟩, ⟨s9, s9s⟩, ⟨s10, s10s⟩, ⟨s11, s11s⟩, ⟨s12, s12s⟩, ⟨s13, s13s⟩, ⟨s14, s14s⟩⟩ := ne6 hw.slots
  have L := hw.lab
  have Bx := hw.boxes
  have es : e c.s2 = false := by cases hh : e c.s2 with
    | false => rfl
    | true => rw [(h.z2 hh).2] at he; cases he
  obtain ⟨be, sz, xa, xb, bag, f0, f1, g1, g2, q1, q2, rest, z1, z2, y1, y2, y3, y4⟩ := h
  have fl : f 1 = some ⟨c.vb, c.TB, c.sz, c.k, c.XB⟩ := by rw [f1, he]; rfl
  have hlt := (bag.own 1 _ fl).lt
  have nb : ∀ q, q < c.B → w'.heap[q]? = wr.heap[q]? := fun q hq => hg.block q (by first | assumption | omega) (fun e => by have := (hlt q e.symm).1; omega)
  have hbag := bag.app (g := g) (v' := .slice (some ⟨g, 0, none⟩) (c.k + 1) cap) fl hr hg hat rfl
  refine ⟨be.grown sz hg (fun q hq => (hlt q hq).1), Nat.le_trans sz hg.size, ?_, ?_, hbag, ?_, ?_, ?_, ?_, ?_, ?_, ?_, ?_, ?_, ?_, ?_, ?_, ?_⟩
  · rw [upd_ne e _ (by first | assumption | omega), upd_ne t _ (by first | assumption | omega), nb _ (by first | assumption | omega)]; exact xa
  · rw [upd_ne e _ (by first | assumption | omega), es, nb _ (by first | assumption | omega)]; rw [es] at xb; exact xb
  · rw [upd_ne f _ (show (0 : Nat) ≠ 1 by omega), upd_ne e true (show c.p1 ≠ c.p2 by assumption), upd_ne t _ (show c.dp1 ≠ c.dp2 by assumption), upd_ne t _ (show c.do1 ≠ c.dp2 by assumption)]; exact f0
  · rw [upd_at, upd_at, if_pos rfl, upd_at, upd_ne t _ (show c.do2 ≠ c.dp2 by assumption)]
  · intro hh; rw [upd_ne _ _ (by first | assumption | omega)] at hh; rw [upd_ne f _ (show (4 : Nat) ≠ 1 by omega), upd_ne t _ (show c.db1 ≠ c.dp2 by assumption), upd_ne t _ (show c.do1 ≠ c.dp2 by assumption)]; exact g1 hh
  · intro hh; rw [upd_ne _ _ (by first | assumption | omega)] at hh; rw [upd_ne f _ (show (5 : Nat) ≠ 1 by omega), upd_ne t _ (show c.db2 ≠ c.dp2 by assumption), upd_ne t _ (show c.do2 ≠ c.dp2 by assumption)]; exact g2 hh
  · intro ho' hh; rw [upd_ne _ _ (by first | assumption | omega)] at hh; rw [upd_ne f _ (show c.l1 ≠ 1 by omega), upd_ne t _ (show c.do1 ≠ c.dp2 by assumption)]; exact q1 ho' hh
  · intro ho' hh; rw [upd_ne _ _ (by first | assumption | omega)] at hh; rw [upd_ne f _ (show c.l2 ≠ 1 by omega), upd_ne t _ (show c.do2 ≠ c.dp2 by assumption)]; exact q2 ho' hh
  · intro i hi hn; rw [upd_ne _ _ (by first | assumption | omega)]; exact rest i hi hn
  · intro hh; rw [upd_ne _ _ (by first | assumption | omega)] at hh; refine ⟨?_, by rw [upd_ne _ _ (by first | assumption | omega)]; exact (z1 hh).2⟩; by_cases hl : c.ld1 = c.p2; · rw [hl, upd_at]
    rw [upd_ne _ _ hl]; exact (z1 hh).1
  · intro hh; rw [upd_ne _ _ (by first | assumption | omega)] at hh; rw [es] at hh; cases hh
    
  · intro hh; rw [upd_ne _ _ (show c.b1 ≠ c.p2 by assumption)]; rw [upd_ne _ _ (by first | assumption | omega)] at hh; exact y1 hh
  · intro hh; rw [upd_ne _ _ (show c.b2 ≠ c.p2 by assumption)]; exact heb
  · intro ho' hh; rw [upd_ne _ _ (by first | assumption | omega)] at hh ⊢; exact y3 ho' hh
  · intro ho' hh; rw [upd_ne _ _ (by first | assumption | omega)] at hh ⊢; exact y4 ho' hh
theorem st1 (h : Ap c e t f wr) (hw : c.Wf) (hl : e c.ld1 = true) (hp : e c.p1 = true) {o : Nat} {v : Value} (hx : (wr.setCell ⟨c.bA, o, none⟩ v).heap[c.bA]? = some (c.OA (t c.dp1))) :
    Ap c (upd e c.s1 true) t f (wr.setCell ⟨c.bA, o, none⟩ v) := by
  obtain ⟨⟨o0, o0s⟩, ⟨o1, o1s⟩, ⟨o2, o2s⟩, ⟨o3, o3s⟩, ⟨o4, o4s⟩, ⟨o5, o5s⟩, ⟨o6, o6s⟩, ⟨o7, o7s⟩, ⟨o8, o8s⟩, ⟨o9, o9s⟩, ⟨o10, o10s⟩, ⟨o11, o11s⟩, ⟨o12, o12s⟩, ⟨o13, o13s⟩, ⟨o14, o14s⟩, ⟨o15, o15s⟩, ⟨o16, o16s⟩, ⟨o17, o17s⟩, ⟨o18, o18s⟩, ⟨o19, o19s⟩, ⟨o20, o20s⟩, ⟨o21, o21s⟩, ⟨o22, o22s⟩, ⟨o23, o23s⟩, ⟨o24, o24s⟩, ⟨o25, o25s⟩, ⟨o26, o26s⟩, ⟨o27, o27s⟩⟩ := ne8 hw.ops
  have L := hw.lab
  have D := hw.lds
  have Bx := hw.boxes
  obtain ⟨be, sz, xa, xb, bag, f0, f1, g1, g2, q1, q2, rest, z1, z2, y1, y2, y3, y4⟩ := h
  have nb : ∀ q, q ≠ c.bA → (wr.setCell ⟨c.bA, o, none⟩ v).heap[q]? = wr.heap[q]? := fun q hq => Below.heap_setCell wr ⟨c.bA, o, none⟩ v q hq
  refine ⟨be.store (.inl rfl) v, by simpa [World.setCell] using sz, ?_, ?_, bag.low (a := ⟨c.bA, o, none⟩) (by show c.bA < c.B; omega) v, ?_, ?_, ?_, ?_, ?_, ?_, rest, ?_, ?_, ?_, ?_, ?_, ?_⟩
  · rw [upd_at, if_pos rfl]; exact hx
  · rw [upd_ne e _ (by first | assumption | omega), nb _ (by first | assumption | omega)]; exact xb
  · rw [upd_ne e _ (by first | assumption | omega)]; exact f0
  · rw [upd_ne e _ (by first | assumption | omega)]; exact f1
  · rw [upd_ne e _ (by first | assumption | omega)]; exact g1
  · rw [upd_ne e _ (by first | assumption | omega)]; exact g2
  · rw [upd_ne e _ (by first | assumption | omega)]; exact q1
  · rw [upd_ne e _ (by first | assumption | omega)]; exact q2
  · intro _; rw [upd_ne e _ D.1, upd_ne e _ (by first | assumption | omega)]; exact ⟨hl, hp⟩
  · rw [upd_ne e _ (by first | assumption | omega), upd_ne e _ D.2.2.1, upd_ne e _ (by first | assumption | omega)]; exact z2
  · rw [upd_ne e _ (by first | assumption | omega), upd_ne e _ (by first | assumption | omega)]; exact y1
  · rw [upd_ne e _ (by first | assumption | omega), upd_ne e _ (by first | assumption | omega)]; exact y2
  · rw [upd_ne e _ (by first | assumption | omega), upd_ne e _ (by first | assumption | omega)]; exact y3
  · rw [upd_ne e _ (by first | assumption | omega), upd_ne e _ (by first | assumption | omega)]; exact y4
theorem st2 (h : Ap c e t f wr) (hw : c.Wf) (hl : e c.ld2 = true) (hp : e c.p2 = true) {o : Nat} {v : Value} (hx : (wr.setCell ⟨c.bB, o, none⟩ v).heap[c.bB]? = some (c.OB (t c.dp2))) :
    Ap c (upd e c.s2 true) t f (wr.setCell ⟨c.bB, o, none⟩ v) := by
  obtain ⟨⟨o0, o0s⟩, ⟨o1, o1s⟩, ⟨o2, o2s⟩, ⟨o3, o3s⟩, ⟨o4, o4s⟩, ⟨o5, o5s⟩, ⟨o6, o6s⟩, ⟨o7, o7s⟩, ⟨o8, o8s⟩, ⟨o9, o9s⟩, ⟨o10, o10s⟩, ⟨o11, o11s⟩, ⟨o12, o12s⟩, ⟨o13, o13s⟩, ⟨o14, o14s⟩, ⟨o15, o15s⟩, ⟨o16, o16s⟩, ⟨o17, o17s⟩, ⟨o18, o18s⟩, ⟨o19, o19s⟩, ⟨o20, o20s⟩, ⟨o21, o21s⟩, ⟨o22, o22s⟩, ⟨o23, o23s⟩, ⟨o24, o24s⟩, ⟨o25, o25s⟩, ⟨o26, o26s⟩, ⟨o27, o27s⟩⟩ := ne8 hw.ops
  have L := hw.lab
  have D := hw.lds
  have Bx := hw.boxes
  obtain ⟨be, sz, xa, xb, bag, f0, f1, g1, g2, q1, q2, rest, z1, z2, y1, y2, y3, y4⟩ := h
  have nb : ∀ q, q ≠ c.bB → (wr.setCell ⟨c.bB, o, none⟩ v).heap[q]? = wr.heap[q]? := fun q hq => Below.heap_setCell wr ⟨c.bB, o, none⟩ v q hq
  refine ⟨be.store (.inr rfl) v, by simpa [World.setCell] using sz, ?_, ?_, bag.low (a := ⟨c.bB, o, none⟩) (by show c.bB < c.B; omega) v, ?_, ?_, ?_, ?_, ?_, ?_, rest, ?_, ?_, ?_, ?_, ?_, ?_⟩
  · rw [upd_ne e _ (by first | assumption | omega), nb _ (by first | assumption | omega)]; exact xa
  · rw [upd_at, if_pos rfl]; exact hx
  · rw [upd_ne e _ (by first | assumption | omega)]; exact f0
  · rw [upd_ne e _ (by first | assumption | omega)]; exact f1
  · rw [upd_ne e _ (by first | assumption | omega)]; exact g1
  · rw [upd_ne e _ (by first | assumption | omega)]; exact g2
  · rw [upd_ne e _ (by first | assumption | omega)]; exact q1
  · rw [upd_ne e _ (by first | assumption | omega)]; exact q2
  · rw [upd_ne e _ (by first | assumption | omega), upd_ne e _ D.2.1, upd_ne e _ (by first | assumption | omega)]; exact z1
  · intro _; rw [upd_ne e _ D.2.2.2, upd_ne e _ (by first | assumption | omega)]; exact ⟨hl, hp⟩
  · rw [upd_ne e _ (by first | assumption | omega), upd_ne e _ (by first | assumption | omega)]; exact y1
  · rw [upd_ne e _ (by first | assumption | omega), upd_ne e _ (by first | assumption | omega)]; exact y2
  · rw [upd_ne e _ (by first | assumption | omega), upd_ne e _ (by first | assumption | omega)]; exact y3
  · rw [upd_ne e _ (by first | assumption | omega), upd_ne e _ (by first | assumption | omega)]; exact y4
theorem la (h : Ap c e t f wr) (hl : e c.ld1 = false) : wr.heap[c.bA]? = some (c.OA c.va) := by
  have := h.xa
  cases hh : e c.s1 with
  | false => rw [hh] at this; exact this
  | true => rw [(h.z1 hh).1] at hl; cases hl
theorem lb (h : Ap c e t f wr) (hl : e c.ld2 = false) : wr.heap[c.bB]? = some (c.OB c.vb) := by
  have := h.xb
  cases hh : e c.s2 with
  | false => rw [hh] at this; exact this
  | true => rw [(h.z2 hh).1] at hl; cases hl
theorem ownA (h : Ap c e t f wr) (hp : e c.p1 = false) : wr.ownsRow c.B c.TA c.sz c.va c.k c.XA := by
  have := h.f0
  rw [hp] at this
  exact h.bag.own 0 _ this
theorem ownB (h : Ap c e t f wr) (hp : e c.p2 = false) : wr.ownsRow c.B c.TB c.sz c.vb c.k c.XB := by
  have := h.f1
  rw [hp] at this
  exact h.bag.own 1 _ this
theorem shape1 (h : Ap c e t f wr) (hp : e c.p1 = true) : ∃ g cap, t c.dp1 = .slice (some ⟨g, 0, none⟩) (c.k + 1) cap := by
  have := h.f0
  rw [hp, if_pos rfl] at this
  obtain ⟨g, cap, hv, _⟩ := (h.bag.own 0 _ this).form (Nat.succ_pos _)
  exact ⟨g, cap, hv⟩
theorem shape2 (h : Ap c e t f wr) (hp : e c.p2 = true) : ∃ g cap, t c.dp2 = .slice (some ⟨g, 0, none⟩) (c.k + 1) cap := by
  have := h.f1
  rw [hp, if_pos rfl] at this
  obtain ⟨g, cap, hv, _⟩ := (h.bag.own 1 _ this).form (Nat.succ_pos _)
  exact ⟨g, cap, hv⟩
/-- The variable of the loop: label 6. -/
theorem cells6 (h : Ap c e t f wr) (hn : c.own = true → 6 ≠ c.l1 ∧ 6 ≠ c.l2) {y : Nat} {T : TypeId} {u v : Value} (h6 : c.F0 6 = some ⟨.slice (some ⟨y, 0, none⟩) 1 1, T, 2, 1, [u, v]⟩) : wr.cell? ⟨y, 0, none⟩ = some u ∧ wr.cell? ⟨y, 1, none⟩ = some v := by
  have hf := (h.rest 6 (Nat.le_refl _) hn).trans h6
  have ho := h.bag.own 6 _ hf
  exact ⟨by have := ho.cellAt 0 (by show 0 < 1 * 2; omega); exact this, by have := ho.cellAt 1 (by show 1 < 1 * 2; omega); exact this⟩
theorem start (hA : wr.heap[c.bA]? = some (c.OA c.va)) (hB : wr.heap[c.bB]? = some (c.OB c.vb)) (hb : Bag c.B wr f) (h0 : f 0 = some ⟨c.va, c.TA, c.sz, c.k, c.XA⟩) (h1 : f 1 = some ⟨c.vb, c.TB, c.sz, c.k, c.XB⟩)
    (hr : ∀ i, 6 ≤ i → (c.own = true → i ≠ c.l1 ∧ i ≠ c.l2) → f i = c.F0 i) (hk : Keeps c.bA c.bB c.B c.W0 wr) (hs : c.B ≤ wr.heap.size) (t : Nat → Value) : Ap c (fun _ => false) t f wr :=
  ⟨hk, hs, hA, hB, hb, h0, h1, (fun h => by cases h), (fun h => by cases h), (fun _ h => by cases h), (fun _ h => by cases h), hr, (fun h => by cases h), (fun h => by cases h), (fun h => by cases h), (fun h => by cases h), (fun _ h => by cases h), (fun _ h => by cases h)⟩
theorem tt (h : Ap c (fun _ => false) t f wr) (t' : Nat → Value) : Ap c (fun _ => false) t' f wr :=
  ⟨h.be, h.sz, h.xa, h.xb, h.bag, h.f0, h.f1, (fun h => by cases h), (fun h => by cases h), (fun _ h => by cases h), (fun _ h => by cases h), h.rest, (fun h => by cases h), (fun h => by cases h), (fun h => by cases h), (fun h => by cases h), (fun _ h => by cases h), (fun _ h => by cases h)⟩
end Ap
end Go.Proofs.YtbadingdklenhaaGreatDoor
