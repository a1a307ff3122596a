/-
  'a, b = append(a, of(x)), append(b, Entry(x))': what holds at every stage of it, in whatever order.
-/
import Derived.Test.YthfdpnmdcmpgbaaDoorKeyRef
namespace Go.Proofs.YthfdpnmdcmpgbaaDoor
set_option maxRecDepth 100000
open Go.RowKit Go.Sort

/-- Both lists that the law makes. -/
structure Both (w : World) (k : Nat) (l : List En) (va vb : Value) (wr : World) : Prop where
  mk ::
  A : wr.ownsRow w.heap.size 27 4 va k (flatE l)
  B : wr.ownsRow w.heap.size 29 4 vb k (flatE l)
  ne : ∀ q, va.ownBlock = some q → vb.ownBlock ≠ some q
  be : Below w.heap.size w wr
/-- What is fixed: the world at the start, the variable x, both lists as they were. -/
structure Ahead (w : World) (s0 bx : Nat) (va vb : Value) : Prop where
  mk ::
  wle : w.heap.size ≤ s0
  ne : ∀ q, va.ownBlock = some q → vb.ownBlock ≠ some q
  la : ∀ q, va.ownBlock = some q → q < s0 ∧ q ≠ bx ∧ w.heap.size ≤ q
  lb : ∀ q, vb.ownBlock = some q → q < s0 ∧ q ≠ bx ∧ w.heap.size ≤ q
/-- e: which operations have come up; t: the slots; g: the new blocks. -/
structure App (w : World) (s0 bx : Nat) (x : En) (k : Nat) (l : List En) (va vb : Value) (e : Nat → Bool) (t : Nat → Value) (g : Nat → Nat) (wr : World) : Prop where
  mk ::
  fix : Ahead w s0 bx va vb
  be : Below w.heap.size w wr
  sz : s0 ≤ wr.heap.size
  X : EBox bx x wr
  v0 : e 0 = true → t 21 = va
  v1 : e 1 = true → t 22 = entV x
  v2 : e 2 = true → t 23 = entV x
  v5 : e 5 = true → t 26 = vb
  v6 : e 6 = true → t 27 = entV x
  c3 : e 3 = true → e 4 = false → t 24 = .slice (some ⟨g 3, 0, none⟩) 1 1 ∧ s0 ≤ g 3 ∧ wr.heap[g 3]? = some (.cells #[.int .i64 x.b, .int .i64 x.d, .int .i64 x.s, .int .i64 x.i] 27 (0, 0))
  c7 : e 7 = true → e 8 = false → t 28 = .slice (some ⟨g 7, 0, none⟩) 1 1 ∧ s0 ≤ g 7 ∧ wr.heap[g 7]? = some (.cells #[.int .i64 x.b, .int .i64 x.d, .int .i64 x.s, .int .i64 x.i] 29 (0, 0))
  A0 : e 4 = false → wr.ownsRow w.heap.size 27 4 va k (flatE l)
  A1 : e 4 = true → wr.ownsRow w.heap.size 27 4 (t 25) (k + 1) (flatE (l ++ [x])) ∧ ∀ q, (t 25).ownBlock = some q → vb.ownBlock ≠ some q ∧ (e 7 = true → e 8 = false → q ≠ g 7)
  B0 : e 8 = false → wr.ownsRow w.heap.size 29 4 vb k (flatE l)
  B1 : e 8 = true → wr.ownsRow w.heap.size 29 4 (t 29) (k + 1) (flatE (l ++ [x])) ∧ ∀ q, (t 29).ownBlock = some q → (t 25).ownBlock ≠ some q
  s3 : e 9 = false → t 3 = va
  s3' : e 9 = true → t 3 = t 25
  s4 : e 10 = false → t 4 = vb
  s4' : e 10 = true → t 4 = t 29
  z4 : e 4 = true → e 0 = true ∧ e 3 = true
  z8 : e 8 = true → e 4 = true ∧ e 5 = true ∧ e 7 = true
  z9 : e 9 = true → e 8 = true
  z10 : e 10 = true → e 9 = true
namespace App
variable {w : World} {s0 bx k : Nat} {x : En} {l : List En} {va vb : Value} {e : Nat → Bool} {t : Nat → Value} {g : Nat → Nat} {wr w' : World}
theorem start (h : Both w k l va vb wr) (hw : w.heap.size ≤ wr.heap.size) (T : TypeId) (t : Nat → Value) (h3 : t 3 = va) (h4 : t 4 = vb) :
    App w (wr.heap.size + 1) wr.heap.size x k l va vb (fun _ => false) t (fun _ => 0) (wr.alloc (.cells #[.int .i64 x.b, .int .i64 x.d, .int .i64 x.s, .int .i64 x.i] T)).drew := by
  have hbel := (h.be.alloc hw (.cells #[.int .i64 x.b, .int .i64 x.d, .int .i64 x.s, .int .i64 x.i] T)).drew
  refine ⟨⟨by omega, h.ne, fun q hq => ?_, fun q hq => ?_⟩, hbel, by simp [World.drew], ?_, (fun h => by cases h), (fun h => by cases h), (fun h => by cases h), (fun h => by cases h), (fun h => by cases h), (fun h => by cases h), (fun h => by cases h), fun _ => (h.A.alloc _).drew, (fun h => by cases h), fun _ => (h.B.alloc _).drew, (fun h => by cases h), fun _ => h3, (fun h => by cases h), fun _ => h4, (fun h => by cases h), (fun h => by cases h), (fun h => by cases h), (fun h => by cases h), (fun h => by cases h)⟩
  · have := h.A.lt q hq; omega
  · have := h.B.lt q hq; omega
  · exact (ebox_new wr x.b x.d x.s x.i T).next (Below.refl _ _).drew
theorem keep (hb : Below wr.heap.size wr w') {B : Nat} {T : TypeId} {v : Value} {n : Nat} {xs : List Value} (h : wr.ownsRow B T 4 v n xs) : w'.ownsRow B T 4 v n xs :=
  h.kept (row := none) ⟨hb.os, hb.tape, hb.output, hb.size, fun k hk _ => hb.block k hk⟩ (by cases hv : v.ownBlock <;> simp)
theorem blk {g : Nat} {o : Obj} (h : wr.heap[g]? = some o) : g < wr.heap.size := (Array.getElem?_eq_some_iff.1 h).1
theorem grow (h : App w s0 bx x k l va vb e t g wr) (hb : Below wr.heap.size wr w') : App w s0 bx x k l va vb e t g w' :=
  ⟨h.fix, h.be.trans (hb.mono h.be.size), Nat.le_trans h.sz hb.size, h.X.next hb, h.v0, h.v1, h.v2, h.v5, h.v6,
    fun a b => by obtain ⟨p1, p2, p3⟩ := h.c3 a b; exact ⟨p1, p2, (hb.block _ (blk p3)).trans p3⟩,
    fun a b => by obtain ⟨p1, p2, p3⟩ := h.c7 a b; exact ⟨p1, p2, (hb.block _ (blk p3)).trans p3⟩,
    fun a => keep hb (h.A0 a), fun a => ⟨keep hb (h.A1 a).1, (h.A1 a).2⟩, fun a => keep hb (h.B0 a), fun a => ⟨keep hb (h.B1 a).1, (h.B1 a).2⟩, h.s3, h.s3', h.s4, h.s4', h.z4, h.z8, h.z9, h.z10⟩
theorem not9 (h : App w s0 bx x k l va vb e t g wr) (he : e 0 = false) : e 9 = false := by
  cases hh : e 9 with
  | false => rfl
  | true => have := (h.z4 (h.z8 (h.z9 hh)).1).1; rw [he] at this; cases this
theorem not10 (h : App w s0 bx x k l va vb e t g wr) (he : e 5 = false) : e 10 = false := by
  cases hh : e 10 with
  | false => rfl
  | true => have := (h.z8 (h.z9 (h.z10 hh))).2.1; rw [he] at this; cases this
theorem not8 (h : App w s0 bx x k l va vb e t g wr) (he : e 4 = false) : e 8 = false := by
  cases hh : e 8 with
  | false => rfl
  | true => have := (h.z8 hh).1; rw [he] at this; cases this
theorem not8' (h : App w s0 bx x k l va vb e t g wr) (he : e 7 = false) : e 8 = false := by
  cases hh : e 8 with
  | false => rfl
  | true => have := (h.z8 hh).2.2; rw [he] at this; cases this
theorem not4 (h : App w s0 bx x k l va vb e t g wr) (he : e 3 = false) : e 4 = false := by
  cases hh : e 4 with
  | false => rfl
  | true => have := (h.z4 hh).2; rw [he] at this; cases this
theorem op0 (h : App w s0 bx x k l va vb e t g wr) : App w s0 bx x k l va vb (upd e 0 true) (upd t 21 va) g wr :=
  ⟨h.fix, h.be, h.sz, h.X, fun _ => rfl, h.v1, h.v2, h.v5, h.v6, h.c3, h.c7, h.A0, h.A1, h.B0, h.B1, h.s3, h.s3', h.s4, h.s4', fun a => ⟨rfl, (h.z4 a).2⟩, h.z8, h.z9, h.z10⟩
theorem op1 (h : App w s0 bx x k l va vb e t g wr) : App w s0 bx x k l va vb (upd e 1 true) (upd t 22 (entV x)) g wr :=
  ⟨h.fix, h.be, h.sz, h.X, h.v0, fun _ => rfl, h.v2, h.v5, h.v6, h.c3, h.c7, h.A0, h.A1, h.B0, h.B1, h.s3, h.s3', h.s4, h.s4', h.z4, h.z8, h.z9, h.z10⟩
theorem op2 (h : App w s0 bx x k l va vb e t g wr) : App w s0 bx x k l va vb (upd e 2 true) (upd t 23 (entV x)) g wr :=
  ⟨h.fix, h.be, h.sz, h.X, h.v0, h.v1, fun _ => rfl, h.v5, h.v6, h.c3, h.c7, h.A0, h.A1, h.B0, h.B1, h.s3, h.s3', h.s4, h.s4', h.z4, h.z8, h.z9, h.z10⟩
theorem op5 (h : App w s0 bx x k l va vb e t g wr) : App w s0 bx x k l va vb (upd e 5 true) (upd t 26 vb) g wr :=
  ⟨h.fix, h.be, h.sz, h.X, h.v0, h.v1, h.v2, fun _ => rfl, h.v6, h.c3, h.c7, h.A0, h.A1, h.B0, h.B1, h.s3, h.s3', h.s4, h.s4', h.z4, fun a => ⟨(h.z8 a).1, rfl, (h.z8 a).2.2⟩, h.z9, h.z10⟩
theorem op6 (h : App w s0 bx x k l va vb e t g wr) : App w s0 bx x k l va vb (upd e 6 true) (upd t 27 (entV x)) g wr :=
  ⟨h.fix, h.be, h.sz, h.X, h.v0, h.v1, h.v2, h.v5, fun _ => rfl, h.c3, h.c7, h.A0, h.A1, h.B0, h.B1, h.s3, h.s3', h.s4, h.s4', h.z4, h.z8, h.z9, h.z10⟩
theorem op3 (h : App w s0 bx x k l va vb e t g wr) : App w s0 bx x k l va vb (upd e 3 true) (upd t 24 (.slice (some ⟨wr.heap.size, 0, none⟩) 1 1)) (upd g 3 wr.heap.size) (wr.alloc (.cells #[.int .i64 x.b, .int .i64 x.d, .int .i64 x.s, .int .i64 x.i] 27)) := by
  have h2 := h.grow ((Below.refl wr.heap.size wr).alloc (Nat.le_refl _) (.cells #[.int .i64 x.b, .int .i64 x.d, .int .i64 x.s, .int .i64 x.i] 27))
  exact ⟨h.fix, h2.be, h2.sz, h2.X, h.v0, h.v1, h.v2, h.v5, h.v6, fun _ _ => ⟨rfl, h.sz, heap_alloc_new _ _⟩, h2.c7, h2.A0, h2.A1, h2.B0, h2.B1, h.s3, h.s3', h.s4, h.s4', fun a => ⟨(h.z4 a).1, rfl⟩, h.z8, h.z9, h.z10⟩
theorem op7 (h : App w s0 bx x k l va vb e t g wr) : App w s0 bx x k l va vb (upd e 7 true) (upd t 28 (.slice (some ⟨wr.heap.size, 0, none⟩) 1 1)) (upd g 7 wr.heap.size) (wr.alloc (.cells #[.int .i64 x.b, .int .i64 x.d, .int .i64 x.s, .int .i64 x.i] 29)) := by
  have h2 := h.grow ((Below.refl wr.heap.size wr).alloc (Nat.le_refl _) (.cells #[.int .i64 x.b, .int .i64 x.d, .int .i64 x.s, .int .i64 x.i] 29))
  refine ⟨h.fix, h2.be, h2.sz, h2.X, h.v0, h.v1, h.v2, h.v5, h.v6, h2.c3, fun _ _ => ⟨rfl, h.sz, heap_alloc_new _ _⟩, h2.A0, fun a => ⟨(h2.A1 a).1, fun q hq => ⟨((h.A1 a).2 q hq).1, fun _ _ => ?_⟩⟩, h2.B0, h2.B1, h.s3, h.s3', h.s4, h.s4', h.z4, fun a => ⟨(h.z8 a).1, (h.z8 a).2.1, rfl⟩, h.z9, h.z10⟩
  have := ((h.A1 a).1.lt q hq).2
  show q ≠ wr.heap.size
  omega
theorem op4 (h : App w s0 bx x k l va vb e t g wr) (he : e 4 = false) (he0 : e 0 = true) (he3 : e 3 = true) {g' c' : Nat} (hown : w'.ownsRow w.heap.size 27 4 (.slice (some ⟨g', 0, none⟩) (k + 1) c') (k + 1) (flatE l ++ encE x)) (hgrow : wr.grownBy w' va.ownBlock) (hat : va.ownBlock = some g' ∨ g' = wr.heap.size) :
    App w s0 bx x k l va vb (upd e 4 true) (upd t 25 (.slice (some ⟨g', 0, none⟩) (k + 1) c')) g w' := by
  have h8 := h.not8 he
  have hsz := h.sz
  have hA := h.A0 he
  have nb : ∀ q, q < wr.heap.size → va.ownBlock ≠ some q → w'.heap[q]? = wr.heap[q]? := fun q hq hn => hgrow.block q hq (fun hh => hn hh.symm)
  have hX : EBox bx x w' := by
    have hbx : w'.heap[bx]? = wr.heap[bx]? := nb bx h.X.size (fun hh => (h.fix.la bx hh).2.1 rfl)
    exact ⟨(World.cell?_of_block hbx).trans h.X.c0, (World.cell?_of_block hbx).trans h.X.c1, (World.cell?_of_block hbx).trans h.X.c2, (World.cell?_of_block hbx).trans h.X.c3, Nat.lt_of_lt_of_le h.X.size hgrow.size⟩
  refine ⟨h.fix, h.be.grown hgrow h.be.size (fun q hq => (h.fix.la q hq).2.2), Nat.le_trans hsz hgrow.size, hX, h.v0, h.v1, h.v2, h.v5, h.v6, (fun _ hh => by cases hh), fun a b => ?_, (fun hh => by cases hh), fun _ => ⟨?_, fun q hq => ?_⟩, fun a => ?_, (fun hh => by rw [show (upd e 4 true) 8 = e 8 from rfl, h8] at hh; cases hh), h.s3, fun hh => ?_, h.s4, fun hh => ?_, fun _ => ⟨he0, he3⟩, fun hh => ?_, h.z9, h.z10⟩
  · obtain ⟨p1, p2, p3⟩ := h.c7 a b
    exact ⟨p1, p2, (nb _ (blk p3) (fun hh => by have := (h.fix.la _ hh).1; omega)).trans p3⟩
  · show w'.ownsRow _ _ _ (.slice (some ⟨g', 0, none⟩) (k + 1) c') _ _
    rw [flatE_append, flatE_cons, flatE_nil, List.append_nil]
    exact hown
  · have hq' : g' = q := by simpa [upd, Value.ownBlock] using hq
    subst hq'
    constructor
    · rcases hat with hat | hat
      · exact h.fix.ne _ hat
      · intro hh; have := (h.fix.lb _ hh).1; omega
    · intro e7 e8
      obtain ⟨_, p2, p3⟩ := h.c7 e7 e8
      have := blk p3
      rcases hat with hat | hat
      · have := (h.fix.la _ hat).1
        intro hh; rw [hh] at this; omega
      · intro hh; rw [hat] at hh; omega
  · refine (h.B0 a).kept hgrow ?_
    cases hv : vb.ownBlock with
    | none => exact .inl rfl
    | some q => exact .inr (fun hh => h.fix.ne q hh.symm hv)
  · exact absurd (h.z9 hh) (by rw [h8]; simp)
  · exact absurd (h.z9 (h.z10 hh)) (by rw [h8]; simp)
  · exact absurd (show e 8 = true from hh) (by rw [h8]; simp)
theorem op8 (h : App w s0 bx x k l va vb e t g wr) (he : e 8 = false) (he4 : e 4 = true) (he5 : e 5 = true) (he7 : e 7 = true) {g' c' : Nat} (hown : w'.ownsRow w.heap.size 29 4 (.slice (some ⟨g', 0, none⟩) (k + 1) c') (k + 1) (flatE l ++ encE x)) (hgrow : wr.grownBy w' vb.ownBlock) (hat : vb.ownBlock = some g' ∨ g' = wr.heap.size) :
    App w s0 bx x k l va vb (upd e 8 true) (upd t 29 (.slice (some ⟨g', 0, none⟩) (k + 1) c')) g w' := by
  have hsz := h.sz
  obtain ⟨hA, hsep⟩ := h.A1 he4
  have nb : ∀ q, q < wr.heap.size → vb.ownBlock ≠ some q → w'.heap[q]? = wr.heap[q]? := fun q hq hn => hgrow.block q hq (fun hh => hn hh.symm)
  have hX : EBox bx x w' := by
    have hbx : w'.heap[bx]? = wr.heap[bx]? := nb bx h.X.size (fun hh => (h.fix.lb bx hh).2.1 rfl)
    exact ⟨(World.cell?_of_block hbx).trans h.X.c0, (World.cell?_of_block hbx).trans h.X.c1, (World.cell?_of_block hbx).trans h.X.c2, (World.cell?_of_block hbx).trans h.X.c3, Nat.lt_of_lt_of_le h.X.size hgrow.size⟩
  refine ⟨h.fix, h.be.grown hgrow h.be.size (fun q hq => (h.fix.lb q hq).2.2), Nat.le_trans hsz hgrow.size, hX, h.v0, h.v1, h.v2, h.v5, h.v6, (fun _ hh => by rw [show (upd e 8 true) 4 = e 4 from rfl, he4] at hh; cases hh), (fun _ hh => by cases hh), (fun hh => by rw [show (upd e 8 true) 4 = e 4 from rfl, he4] at hh; cases hh), fun _ => ⟨?_, fun q hq => ⟨(hsep q hq).1, fun _ hh => by cases hh⟩⟩, (fun hh => by cases hh), fun _ => ⟨?_, fun q hq => ?_⟩, h.s3, h.s3', h.s4, fun hh => ?_, h.z4, fun _ => ⟨he4, he5, he7⟩, fun _ => rfl, h.z10⟩
  · refine hA.kept hgrow ?_
    cases hv : (t 25).ownBlock with
    | none => exact .inl rfl
    | some q => exact .inr (fun hh => (hsep q hv).1 hh.symm)
  · show w'.ownsRow _ _ _ (.slice (some ⟨g', 0, none⟩) (k + 1) c') _ _
    rw [flatE_append, flatE_cons, flatE_nil, List.append_nil]
    exact hown
  · have hq' : g' = q := by simpa [upd, Value.ownBlock] using hq
    subst hq'
    show (t 25).ownBlock ≠ some g'
    intro hh
    rcases hat with hat | hat
    · exact (hsep _ hh).1 hat
    · have := (hA.lt _ hh).2; omega
  · exact absurd (h.z9 (h.z10 hh)) (by rw [he]; simp)
theorem op9 (h : App w s0 bx x k l va vb e t g wr) (he8 : e 8 = true) : App w s0 bx x k l va vb (upd e 9 true) (upd t 3 (t 25)) g wr :=
  ⟨h.fix, h.be, h.sz, h.X, h.v0, h.v1, h.v2, h.v5, h.v6, h.c3, h.c7, h.A0, h.A1, h.B0, h.B1, (fun hh => by cases hh), fun _ => rfl, h.s4, h.s4', h.z4, h.z8, fun _ => he8, fun _ => rfl⟩
theorem op10 (h : App w s0 bx x k l va vb e t g wr) (he9 : e 9 = true) : App w s0 bx x k l va vb (upd e 10 true) (upd t 4 (t 29)) g wr :=
  ⟨h.fix, h.be, h.sz, h.X, h.v0, h.v1, h.v2, h.v5, h.v6, h.c3, h.c7, h.A0, h.A1, h.B0, h.B1, h.s3, h.s3', (fun hh => by cases hh), fun _ => rfl, h.z4, h.z8, h.z9, fun _ => he9⟩
theorem done (h : App w s0 bx x k l va vb e t g wr) (he4 : e 4 = true) (he8 : e 8 = true) (he9 : e 9 = true) (he10 : e 10 = true) : Both w (k + 1) (l ++ [x]) (t 3) (t 4) wr := by
  rw [h.s3' he9, h.s4' he10]
  exact ⟨(h.A1 he4).1, (h.B1 he8).1, fun q hq hh => (h.B1 he8).2 q hh hq, h.be⟩
end App
end Go.Proofs.YthfdpnmdcmpgbaaDoor
