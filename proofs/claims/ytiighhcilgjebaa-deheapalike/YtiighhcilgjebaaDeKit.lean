/-
  A heap of either kind (layer 7) in memory: an interface value that holds one of layer 5's or of layer 6's, and a capacity; what its calls leave as it was.
-/
import Derived.Test.YtiighhcilgjebaaHeapPush
import Derived.Test.YtiighhcilgjebaaIPush
namespace Go.Proofs.Ytiighhcilgjebaa
set_option maxRecDepth 100000
open Go.RowKit Go.Sort

/-- By kind (true: of pairs): the heap's type, what stands right, the interface value. -/
def hT : Bool → TypeId
  | true => 94
  | false => 97
def hR : Bool → List En → Prop
  | true => I.Right
  | false => Right
def ifc : Bool → Nat → Value
  | true, hb => .iface 82 (.pointer (some ⟨hb, 0, none⟩))
  | false, hb => .iface 84 (.pointer (some ⟨hb, 0, none⟩))
/-- A kind's number. -/
def kN : Bool → Int
  | true => 1
  | false => 0

/-- A heap of a kind: its block, the heap's within, its list, its capacity. -/
structure DeAt (w : World) (db : Nat) (k : Bool) (hb : Nat) (v : Value) (l : List En) (most : Int) : Prop where
  mk ::
  blk : w.heap[db]? = some (.cells #[ifc k hb, .int .i64 most] 66 (0, 0))
  ne : db ≠ hb ∧ v.ownBlock ≠ some db
  at_ : HeapAtT (hT k) w 0 hb v l
  rt : hR k l
/-- Nothing but the blocks of F, and new ones, has turned. -/
structure Kept (F : Nat → Prop) (w w' : World) : Prop where
  mk ::
  os : w'.os = w.os
  tape : w'.tape = w.tape
  output : w'.output = w.output
  size : w.heap.size ≤ w'.heap.size
  block : ∀ k, k < w.heap.size → ¬ F k → w'.heap[k]? = w.heap[k]?
namespace Kept
variable {F G : Nat → Prop} {w w' w'' : World}
theorem refl (F : Nat → Prop) (w : World) : Kept F w w := ⟨rfl, rfl, rfl, Nat.le_refl _, fun _ _ _ => rfl⟩
theorem of (h : Below w.heap.size w w') : Kept F w w' := ⟨h.os, h.tape, h.output, h.size, fun k hk _ => h.block k hk⟩
theorem trans (h : Kept F w w') (k : Kept G w' w'') (hg : ∀ b, b < w.heap.size → G b → F b) : Kept F w w'' :=
  ⟨k.os.trans h.os, k.tape.trans h.tape, k.output.trans h.output, Nat.le_trans h.size k.size, fun j hj hn => (k.block j (Nat.lt_of_lt_of_le hj h.size) (fun g => hn (hg j hj g))).trans (h.block j hj hn)⟩
theorem off {hb : Nat} {v : Value} (h : Off w hb v w') (h1 : F hb) (h2 : ∀ q, v.ownBlock = some q → F q) : Kept F w w' :=
  ⟨h.os, h.tape, h.output, h.size, fun k hk hn => h.block k hk (fun e => hn (e ▸ h1)) (fun e => hn (h2 k e))⟩
theorem below {B : Nat} (h : Kept F w w') (hB : B ≤ w.heap.size) (hF : ∀ b, F b → B ≤ b) : Below B w w' :=
  ⟨h.os, h.tape, h.output, h.size, fun k hk => h.block k (by omega) (fun f => by have := hF k f; omega)⟩
theorem setCell (h : Kept F w w') {a : Addr} (ha : F a.block ∨ w.heap.size ≤ a.block) (u : Value) : Kept F w (w'.setCell a u) := by
  refine ⟨h.os, h.tape, h.output, by simpa [World.setCell] using h.size, fun k hk h1 => ?_⟩
  rw [Below.heap_setCell _ _ _ k ?_]
  · exact h.block k hk h1
  · rintro rfl
    rcases ha with ha | ha
    · exact h1 ha
    · omega
theorem set4 (h : Kept F w w') {b o : Nat} (ha : F b ∨ w.heap.size ≤ b) (v0 v1 v2 v3 : Value) : Kept F w ((((w'.setCell ⟨b, o, none⟩ v0).setCell ⟨b, o + 1, none⟩ v1).setCell ⟨b, o + 2, none⟩ v2).setCell ⟨b, o + 3, none⟩ v3) :=
  (((h.setCell (a := ⟨b, o, none⟩) ha v0).setCell (a := ⟨b, o + 1, none⟩) ha v1).setCell (a := ⟨b, o + 2, none⟩) ha v2).setCell (a := ⟨b, o + 3, none⟩) ha v3
theorem set40 (h : Kept F w w') {b : Nat} (ha : F b ∨ w.heap.size ≤ b) (v0 v1 v2 v3 : Value) : Kept F w ((((w'.setCell ⟨b, 0, none⟩ v0).setCell ⟨b, 1, none⟩ v1).setCell ⟨b, 2, none⟩ v2).setCell ⟨b, 3, none⟩ v3) :=
  (((h.setCell (a := ⟨b, 0, none⟩) ha v0).setCell (a := ⟨b, 1, none⟩) ha v1).setCell (a := ⟨b, 2, none⟩) ha v2).setCell (a := ⟨b, 3, none⟩) ha v3
theorem next (h : Kept F w w') (b : Below w'.heap.size w' w'') : Kept F w w'' :=
  h.trans (Kept.of (F := fun _ => False) b) (fun _ _ f => f.elim)
theorem wider (h : Kept G w w') (hg : ∀ b, b < w.heap.size → G b → F b) : Kept F w w' :=
  ⟨h.os, h.tape, h.output, h.size, fun k hk hn => h.block k hk (fun g => hn (hg k hk g))⟩
end Kept
namespace DeAt
variable {w w' : World} {db hb : Nat} {k : Bool} {v : Value} {l : List En} {most : Int}
theorem lt (h : DeAt w db k hb v l most) : db < w.heap.size := (Array.getElem?_eq_some_iff.1 h.blk).1
theorem c0 (h : DeAt w db k hb v l most) : w.cell? ⟨db, 0, none⟩ = some (ifc k hb) := by rw [cell_of h.blk]; rfl
theorem c1 (h : DeAt w db k hb v l most) : w.cell? ⟨db, 1, none⟩ = some (.int .i64 most) := by rw [cell_of h.blk]; rfl
theorem kept {F : Nat → Prop} (h : DeAt w db k hb v l most) (ho : Kept F w w') (h1 : ¬ F db) (h2 : ¬ F hb) (h3 : ∀ q, v.ownBlock = some q → ¬ F q) : DeAt w' db k hb v l most := by
  refine ⟨(ho.block _ h.lt h1).trans h.blk, h.ne, ⟨(ho.block _ h.at_.lt h2).trans h.at_.blk, h.at_.ge, ⟨h.at_.row.1, ?_⟩, h.at_.ne⟩, h.rt⟩
  rcases h.at_.row.2 with hn | ⟨g, cap, cur, rfl, hb, hgg, rest⟩
  · exact .inl hn
  · exact .inr ⟨g, cap, cur, rfl, hb, (ho.block g (Array.getElem?_eq_some_iff.1 hgg).1 (h3 g rfl)).trans hgg, rest⟩
theorem next (h : DeAt w db k hb v l most) (b : Below w.heap.size w w') : DeAt w' db k hb v l most :=
  h.kept (F := fun _ => False) (Kept.of b) id id (fun _ _ => id)
end DeAt
/-- A heap whose entries, in order, are m, within the blocks of F. -/
structure De (w : World) (F : Nat → Prop) (db : Nat) (k : Bool) (m : List En) (most : Int) : Prop where
  mk ::
  at_ : ∃ hb v l, DeAt w db k hb v l most ∧ srt l = m ∧ F hb ∧ ∀ q, v.ownBlock = some q → F q
  F0 : F db
  lt : ∀ b, F b → b < w.heap.size
namespace De
variable {w w' : World} {F G : Nat → Prop} {db : Nat} {k : Bool} {m : List En} {most : Int}
theorem kept (h : De w F db k m most) (ho : Kept G w w') (hd : ∀ b, F b → ¬ G b) : De w' F db k m most := by
  obtain ⟨hb, v, l, h1, h2, h3, h4⟩ := h.at_
  exact ⟨⟨hb, v, l, h1.kept ho (hd _ h.F0) (hd _ h3) (fun q e => hd _ (h4 q e)), h2, h3, h4⟩, h.F0, fun b hb => Nat.lt_of_lt_of_le (h.lt b hb) ho.size⟩
theorem next (h : De w F db k m most) (b : Below w.heap.size w w') : De w' F db k m most :=
  h.kept (G := fun _ => False) (Kept.of b) (fun _ _ => id)
end De
end Go.Proofs.Ytiighhcilgjebaa
