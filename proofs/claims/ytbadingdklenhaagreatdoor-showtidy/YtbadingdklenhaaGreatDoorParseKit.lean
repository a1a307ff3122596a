/-
  The reader of a text's tokens in memory: what it has left; what a call of it may turn; how it fails.
-/
import Derived.Test.YtbadingdklenhaaGreatDoorParseMath
import Derived.Test.YtbadingdklenhaaGreatDoorLexToks
import Derived.Test.YtbadingdklenhaaGreatDoorInstCopyKit
namespace Go.Proofs.YtbadingdklenhaaGreatDoor
set_option maxRecDepth 100000
open Go.RowKit

/-- A token as a value. -/
def tkV (x : Tk) : Value := .agg #[.int .i64 (x.kind : Nat), .string ⟨x.text.toArray⟩, .int .i64 x.n, .int .i64 (x.line : Nat), .int .i64 (x.col : Nat)]
/-- A fault: a place and an error. -/
def fltV (L : List Tk) (j e : Nat) : Value := .iface 127 (.agg #[.int .i64 ((((L[j]?).map (·.line)).getD 0 : Nat) : Int), .int .i64 ((((L[j]?).map (·.col)).getD 0 : Nat) : Int), .int .i64 (e : Nat)])
/-- A call fails at a token. -/
def Dies (L : List Tk) (j e : Nat) (x : Ending) : Prop := x = .panicked [{ v := fltV L j e, recovered := false }]
theorem fltV_at {L : List Tk} {j : Nat} {x : Tk} (h : L[j]? = some x) (e : Nat) : fltV L j e = .iface 127 (.agg #[.int .i64 (x.line : Nat), .int .i64 (x.col : Nat), .int .i64 (e : Nat)]) := by
  unfold fltV; rw [h]; rfl

/-- Nothing but block r, and new blocks, has turned. -/
structure Kb (r : Nat) (w w' : World) : Prop where
  mk ::
  os : w'.os = w.os
  tape : w'.tape = w.tape
  output : w'.output = w.output
  size : w.heap.size ≤ w'.heap.size
  block : ∀ q, q < w.heap.size → q ≠ r → w'.heap[q]? = w.heap[q]?
namespace Kb
variable {r : Nat} {u w w' : World}
theorem refl (r : Nat) (w : World) : Kb r w w := ⟨rfl, rfl, rfl, Nat.le_refl _, fun _ _ _ => rfl⟩
theorem trans (h : Kb r u w) (k : Kb r w w') : Kb r u w' := ⟨k.os.trans h.os, k.tape.trans h.tape, k.output.trans h.output, Nat.le_trans h.size k.size, fun q h1 h2 => (k.block q (Nat.lt_of_lt_of_le h1 h.size) h2).trans (h.block q h1 h2)⟩
theorem of (h : Below w.heap.size w w') : Kb r w w' := ⟨h.os, h.tape, h.output, h.size, fun q h1 _ => h.block q h1⟩
theorem next (h : Kb r u w) (hb : Below w.heap.size w w') : Kb r u w' := h.trans (of hb)
theorem alloc (h : Kb r u w) (o : Obj) : Kb r u (w.alloc o) := h.next (new_below w o)
theorem drew (h : Kb r u w) : Kb r u w.drew := ⟨h.os, h.tape, h.output, h.size, h.block⟩
theorem store (h : Kb r u w) {a : Addr} (ha : a.block = r) (v : Value) : Kb r u (w.setCell a v) :=
  h.trans ⟨rfl, rfl, rfl, by simp [World.setCell], fun q _ h2 => Below.heap_setCell _ _ _ _ (by rw [ha]; exact h2)⟩
/-- A store into a block that was not there. -/
theorem new (h : Kb r u w) {a : Addr} (ha : u.heap.size ≤ a.block) (v : Value) : Kb r u (w.setCell a v) :=
  ⟨h.os, h.tape, h.output, Nat.le_trans h.size (by simp [World.setCell]), fun q h1 h2 => (Below.heap_setCell _ _ _ _ (by omega)).trans (h.block q h1 h2)⟩
theorem grown (h : Kb r u w) {row : Option Nat} (hg : w.grownBy w' row) (hr : ∀ k, row = some k → u.heap.size ≤ k) : Kb r u w' :=
  ⟨hg.os.trans h.os, hg.tape.trans h.tape, hg.output.trans h.output, Nat.le_trans h.size hg.size, fun q h1 h2 => (hg.block q (Nat.lt_of_lt_of_le h1 h.size) (fun e => by have := hr q e.symm; omega)).trans (h.block q h1 h2)⟩
theorem below (h : Kb r u w) {B : Nat} (hr : B ≤ r) (hB : B ≤ u.heap.size) : Below B u w := ⟨h.os, h.tape, h.output, h.size, fun q hq => h.block q (by omega) (by omega)⟩
theorem cell (h : Kb r u w) {q j : Nat} (h1 : q < u.heap.size) (h2 : q ≠ r) : w.cell? ⟨q, j, none⟩ = u.cell? ⟨q, j, none⟩ := World.cell?_of_block (h.block q h1 h2)
theorem frozen (h : Kb r u w) {q j : Nat} (h1 : q < u.heap.size) (h2 : q ≠ r) : w.frozen? ⟨q, j, none⟩ = u.frozen? ⟨q, j, none⟩ := World.frozen?_of_block (h.block q h1 h2)
theorem held (h : Kb r u w) {F : Nat → Prop} (hF : ∀ q, F q → q ≠ r) : Held F u w := ⟨h.size, fun q hq hl => h.block q hl (hF q hq)⟩
/-- A row of blocks behind the reader's stays. -/
theorem own (h : Kb r u w) {M size n : Nat} {t : TypeId} {v : Value} {cs : List Value} (hM : r < M) (ho : u.ownsRow M t size v n cs) : w.ownsRow M t size v n cs := by
  have hl := fun k hk => ho.lt k hk
  obtain ⟨h1, h2⟩ := ho
  refine ⟨h1, ?_⟩
  rcases h2 with h2 | ⟨g, cap, cur, hv, hg, hh, q⟩
  · exact Or.inl h2
  · exact Or.inr ⟨g, cap, cur, hv, hg, (h.block g (hl g (by rw [hv]; rfl)).2 (by omega)).trans hh, q⟩
end Kb

/-- What the reader has left: from the k-th token on. -/
structure RdS (r g C : Nat) (L : List Tk) (k : Nat) (w : World) : Prop where
  mk ::
  cell : w.cell? ⟨r, 0, none⟩ = some (.slice (some ⟨g, k * 5, none⟩) (L.length - k) (C - k))
  fr : w.frozen? ⟨r, 0, none⟩ = false
  toks : ToksAt w g L
  ne : g ≠ r
  le : L.length ≤ C
  mx : C ≤ maxLen
  lt : k < L.length
namespace RdS
variable {r g C k : Nat} {L : List Tk} {w w' : World}
theorem size (h : RdS r g C L k w) : r < w.heap.size := cell_lt h.cell
theorem next (h : RdS r g C L k w) (hb : Below w.heap.size w w') : RdS r g C L k w' :=
  ⟨(hb.cell h.size).trans h.cell, (hb.frozen h.size).trans h.fr, h.toks.next hb, h.ne, h.le, h.mx, h.lt⟩
theorem drew (h : RdS r g C L k w) : RdS r g C L k w.drew := h.next (Below.refl _ _).drew
/-- A store into another block that holds no tokens. -/
theorem other (h : RdS r g C L k w) {a : Addr} (h1 : a.block ≠ r) (h2 : a.block ≠ g) (v : Value) : RdS r g C L k (w.setCell a v) := by
  have e1 := World.cell?_of_block (w := w) (w' := w.setCell a v) (a := ⟨r, 0, none⟩) (Below.heap_setCell _ _ _ _ (fun e => h1 e.symm))
  have e2 := World.frozen?_of_block (w := w) (w' := w.setCell a v) (a := ⟨r, 0, none⟩) (Below.heap_setCell _ _ _ _ (fun e => h1 e.symm))
  refine ⟨e1.trans h.cell, e2.trans h.fr, ⟨by simp [World.setCell]; exact h.toks.1, fun j v' hj => ?_⟩, h.ne, h.le, h.mx, h.lt⟩
  exact (World.cell?_of_block (w := w) (a := ⟨g, j, none⟩) (Below.heap_setCell _ _ _ _ (fun e => h2 e.symm))).trans (h.toks.2 j v' hj)
end RdS
/-- What a call of the reader does: it tells what is read, or fails. -/
def Tells {α : Type} (r : Nat) (L : List Tk) (w : World) (x : Rd α) (P : α → Value → World → Prop) (S : Nat → World → Prop) (e : Ending) (w' : World) : Prop := match x with
  | .ok a k => ∃ v, e = .returned v ∧ P a v w' ∧ S k w' ∧ Kb r w w'
  | .no j er => Dies L j er e ∧ Kb r w w'
theorem tells_no {α : Type} (r : Nat) (L : List Tk) (w : World) (j er : Nat) (P : α → Value → World → Prop) (S : Nat → World → Prop) : Tells r L w (.no j er) P S = fun e w' => Dies L j er e ∧ Kb r w w' := rfl
theorem tells_ok {α : Type} (r : Nat) (L : List Tk) (w : World) (a : α) (k : Nat) (P : α → Value → World → Prop) (S : Nat → World → Prop) : Tells r L w (.ok a k) P S = fun e w' => ∃ v, e = .returned v ∧ P a v w' ∧ S k w' ∧ Kb r w w' := rfl
theorem dies_eq (L : List Tk) (j e : Nat) : Dies L j e = fun x => x = .panicked [{ v := fltV L j e, recovered := false }] := rfl
theorem TBox.kb {r b : Nat} {v0 v1 v2 v3 v4 : Value} {w w' : World} (h : TBox b v0 v1 v2 v3 v4 w) (k : Kb r w w') (hb : b ≠ r) : TBox b v0 v1 v2 v3 v4 w' :=
  ⟨(k.cell h.size hb).trans h.c0, (k.cell h.size hb).trans h.c1, (k.cell h.size hb).trans h.c2, (k.cell h.size hb).trans h.c3, (k.cell h.size hb).trans h.c4,
   (k.frozen h.size hb).trans h.f0, (k.frozen h.size hb).trans h.f1, (k.frozen h.size hb).trans h.f2, (k.frozen h.size hb).trans h.f3, (k.frozen h.size hb).trans h.f4, Nat.lt_of_lt_of_le h.size k.size⟩
theorem RdS.set5 {r g C k b : Nat} {L : List Tk} {w : World} (h : RdS r g C L k w) (h1 : b ≠ r) (h2 : b ≠ g) (v0 v1 v2 v3 v4 : Value) :
    RdS r g C L k (((((w.setCell ⟨b, 0, none⟩ v0).setCell ⟨b, 1, none⟩ v1).setCell ⟨b, 2, none⟩ v2).setCell ⟨b, 3, none⟩ v3).setCell ⟨b, 4, none⟩ v4) :=
  ((((h.other h1 h2 v0).other h1 h2 v1).other h1 h2 v2).other h1 h2 v3).other h1 h2 v4
theorem Kb.set5 {r b : Nat} {u w : World} (h : Kb r u w) (hb : u.heap.size ≤ b) (v0 v1 v2 v3 v4 : Value) :
    Kb r u (((((w.setCell ⟨b, 0, none⟩ v0).setCell ⟨b, 1, none⟩ v1).setCell ⟨b, 2, none⟩ v2).setCell ⟨b, 3, none⟩ v3).setCell ⟨b, 4, none⟩ v4) :=
  ((((h.new hb v0).new hb v1).new hb v2).new hb v3).new hb v4
theorem TBox.set5 {b : Nat} {u0 u1 u2 u3 u4 : Value} {w : World} (h : TBox b u0 u1 u2 u3 u4 w) (v0 v1 v2 v3 v4 : Value) :
    TBox b v0 v1 v2 v3 v4 (((((w.setCell ⟨b, 0, none⟩ v0).setCell ⟨b, 1, none⟩ v1).setCell ⟨b, 2, none⟩ v2).setCell ⟨b, 3, none⟩ v3).setCell ⟨b, 4, none⟩ v4) := by
  obtain ⟨c0, c1, c2, c3, c4, f0, f1, f2, f3, f4, hz⟩ := h
  refine ⟨?_, ?_, ?_, ?_, ?_, ?_, ?_, ?_, ?_, ?_, ?_⟩
  all_goals simp [go_sem, c0, c1, c2, c3, c4, f0, f1, f2, f3, f4, hz]
theorem RdS.kept {r g C k : Nat} {L : List Tk} {w w' : World} (h : RdS r g C L k w) (h1 : w'.heap[r]? = w.heap[r]?) (h2 : w'.heap[g]? = w.heap[g]?) (hs : w.heap.size ≤ w'.heap.size) : RdS r g C L k w' :=
  ⟨(World.cell?_of_block (w := w) (a := ⟨r, 0, none⟩) h1).trans h.cell, (World.frozen?_of_block (w := w) (a := ⟨r, 0, none⟩) h1).trans h.fr, ⟨Nat.lt_of_lt_of_le h.toks.1 hs, fun j v hj => (World.cell?_of_block (w := w) (a := ⟨g, j, none⟩) h2).trans (h.toks.2 j v hj)⟩, h.ne, h.le, h.mx, h.lt⟩
theorem RdS.grown {r g C k : Nat} {L : List Tk} {w w' : World} (h : RdS r g C L k w) {row : Option Nat} (hg : w.grownBy w' row) {B : Nat} (hB : r < B ∧ g < B) (hr : ∀ k, row = some k → B ≤ k) : RdS r g C L k w' :=
  h.kept (hg.block r h.size (fun e => by have := hr r e.symm; omega)) (hg.block g h.toks.1 (fun e => by have := hr g e.symm; omega)) hg.size
/-! ### a variable of six cells, stored whole -/
def set6 (b : Nat) (v0 v1 v2 v3 v4 v5 : Value) (w : World) : World := (((((w.setCell ⟨b, 0, none⟩ v0).setCell ⟨b, 1, none⟩ v1).setCell ⟨b, 2, none⟩ v2).setCell ⟨b, 3, none⟩ v3).setCell ⟨b, 4, none⟩ v4).setCell ⟨b, 5, none⟩ v5
section
variable {b : Nat} {v0 v1 v2 v3 v4 v5 : Value} {w u : World}
theorem IBlk.set6 {T : TypeId} {k c i s z t : Value} (h : IBlk b T k c i s z t w) : IBlk b T v0 v1 v2 v3 v4 v5 (set6 b v0 v1 v2 v3 v4 v5 w) := by
  have h0 := heap_setCell_same w b 0 _ _ v0 h
  have h1 := heap_setCell_same _ b 1 _ _ v1 h0
  have h2 := heap_setCell_same _ b 2 _ _ v2 h1
  have h3 := heap_setCell_same _ b 3 _ _ v3 h2
  have h4 := heap_setCell_same _ b 4 _ _ v4 h3
  have h5 := heap_setCell_same _ b 5 _ _ v5 h4
  exact h5
theorem RdS.set6 {r g C k : Nat} {L : List Tk} (h : RdS r g C L k w) (h1 : b ≠ r) (h2 : b ≠ g) : RdS r g C L k (set6 b v0 v1 v2 v3 v4 v5 w) :=
  (((((h.other h1 h2 v0).other h1 h2 v1).other h1 h2 v2).other h1 h2 v3).other h1 h2 v4).other h1 h2 v5
theorem Kb.set6 {r : Nat} (h : Kb r u w) (hb : u.heap.size ≤ b) : Kb r u (set6 b v0 v1 v2 v3 v4 v5 w) :=
  (((((h.new hb v0).new hb v1).new hb v2).new hb v3).new hb v4).new hb v5
theorem own_set6 {B size n : Nat} {t : TypeId} {v : Value} {cs : List Value} (h : w.ownsRow B t size v n cs) (hb : b < B) : (Go.Proofs.YtbadingdklenhaaGreatDoor.set6 b v0 v1 v2 v3 v4 v5 w).ownsRow B t size v n cs :=
  ownsRow_setCell_below (a := ⟨b, 5, none⟩) (ownsRow_setCell_below (a := ⟨b, 4, none⟩) (ownsRow_setCell_below (a := ⟨b, 3, none⟩) (ownsRow_setCell_below (a := ⟨b, 2, none⟩) (ownsRow_setCell_below (a := ⟨b, 1, none⟩) (ownsRow_setCell_below (a := ⟨b, 0, none⟩) h hb v0) hb v1) hb v2) hb v3) hb v4) hb v5
theorem held_set6 {F : Nat → Prop} (hF : ∀ q, F q → q ≠ b) : Held F w (Go.Proofs.YtbadingdklenhaaGreatDoor.set6 b v0 v1 v2 v3 v4 v5 w) := by
  refine ⟨by simp [Go.Proofs.YtbadingdklenhaaGreatDoor.set6, World.setCell], fun q hq hl => ?_⟩
  have hn := hF q hq
  unfold Go.Proofs.YtbadingdklenhaaGreatDoor.set6
  iterate 6 rw [Below.heap_setCell _ _ _ _ hn]
end
theorem IBlk.kb {b r : Nat} {T : TypeId} {k c i s z t : Value} {w w' : World} (h : IBlk b T k c i s z t w) (kb : Kb r w w') (hb : b ≠ r) : IBlk b T k c i s z t w' := h.keep (kb.block b h.lt hb)
theorem own_sliceP {w : World} {B size n : Nat} {t : TypeId} {v : Value} {cs : List Value} (h : w.ownsRow B t size v n cs) : ∃ A c, v = .slice A n c := by
  rcases h.2 with ⟨hv, hn⟩ | ⟨g, cap, cur, hv, _⟩
  · exact ⟨none, 0, by rw [hv, hn]⟩
  · exact ⟨_, cap, hv⟩
end Go.Proofs.YtbadingdklenhaaGreatDoor
