/-
  What heaps of entries share, whatever keeps them in order (layers 5 and 6): rows of entries, two stores that exchange entries, a heap in memory, what its calls leave.
-/
import Derived.Test.YtiighhcilgjebaaHeapMath2
import Derived.Test.YtiighhcilgjebaaKeyRows
import Derived.Test.YtiighhcilgjebaaEntryKit
import Derived.Test.YtiighhcilgjebaaRegionKit2
import Derived.Deep.AppendLies
import Derived.Deep.Onto
import Derived.Deep.CutRange
import Derived.StillTailTactics
import Derived.Lib.MinMax
namespace Go.Proofs.Ytiighhcilgjebaa
set_option maxRecDepth 100000
open Go.RowKit Go.Sort
variable {T : TypeId} {R : List En → Prop}

theorem ListAt.nth {w : World} {g i : Nat} {l : List En} (h : ListAt w g l) (hi : i < l.length) : w.cell? ⟨g, i * 4, none⟩ = some (.int .i64 (nth l i).b) ∧ w.cell? ⟨g, i * 4 + 1, none⟩ = some (.int .i64 (nth l i).d) ∧ w.cell? ⟨g, i * 4 + 2, none⟩ = some (.int .i64 (nth l i).s) ∧ w.cell? ⟨g, i * 4 + 3, none⟩ = some (.int .i64 (nth l i).i) := by
  obtain ⟨a, b, c, d⟩ := flatE_at l i hi
  rw [nth_get hi]
  exact ⟨h.2 _ _ a, h.2 _ _ b, h.2 _ _ c, h.2 _ _ d⟩
theorem own_list {w : World} {B g n cap : Nat} {t : TypeId} {l : List En} (h : w.ownsRow B t 4 (.slice (some ⟨g, 0, none⟩) n cap) n (flatE l)) : ListAt w g l := by
  have hlt := (h.lt g rfl).2
  refine ⟨hlt, fun j v hj => ?_⟩
  have := h.cells (g := g) rfl j v hj
  rwa [add0] at this

/-- Two entries of a list; the world has grown. -/
structure LTwo (w : World) (g i k : Nat) (x y : En) (wr : World) : Prop where
  mk ::
  cs : wr.cell? ⟨g, i * 4, none⟩ = some (.int .i64 x.b) ∧ wr.cell? ⟨g, i * 4 + 1, none⟩ = some (.int .i64 x.d) ∧ wr.cell? ⟨g, i * 4 + 2, none⟩ = some (.int .i64 x.s) ∧ wr.cell? ⟨g, i * 4 + 3, none⟩ = some (.int .i64 x.i) ∧
    wr.cell? ⟨g, k * 4, none⟩ = some (.int .i64 y.b) ∧ wr.cell? ⟨g, k * 4 + 1, none⟩ = some (.int .i64 y.d) ∧ wr.cell? ⟨g, k * 4 + 2, none⟩ = some (.int .i64 y.s) ∧ wr.cell? ⟨g, k * 4 + 3, none⟩ = some (.int .i64 y.i)
  lt : g < wr.heap.size
  M : More w wr
theorem LTwo.next {w wr w' : World} {g i k : Nat} {x y : En} (h : LTwo w g i k x y wr) (m : More wr w') : LTwo w g i k x y w' := by
  obtain ⟨⟨a, b, c, d, a', b', c', d'⟩, lt, M⟩ := h
  have hb := m.below
  refine ⟨?_, Nat.lt_of_lt_of_le lt hb.size, M.trans m⟩
  rw [hb.cell (by exact lt), hb.cell (by exact lt), hb.cell (by exact lt), hb.cell (by exact lt), hb.cell (by exact lt), hb.cell (by exact lt), hb.cell (by exact lt), hb.cell (by exact lt)]
  exact ⟨a, b, c, d, a', b', c', d'⟩
theorem flatE_set : ∀ (l : List En) (i : Nat) (x : En), i < l.length → ((((flatE l).set (i * 4) (.int .i64 x.b)).set (i * 4 + 1) (.int .i64 x.d)).set (i * 4 + 2) (.int .i64 x.s)).set (i * 4 + 3) (.int .i64 x.i) = flatE (l.set i x)
  | [], i, x, h => by simp at h
  | a :: r, 0, x, h => rfl
  | a :: r, i + 1, x, h => by
    have ih := flatE_set r i x (by simpa using h)
    rw [List.set_cons_succ, flatE_cons a (r.set i x), ← ih, flatE_cons]
    rw [show (i + 1) * 4 = i * 4 + 4 by omega, show i * 4 + 4 + 1 = i * 4 + 1 + 4 by omega, show i * 4 + 4 + 2 = i * 4 + 2 + 4 by omega, show i * 4 + 4 + 3 = i * 4 + 3 + 4 by omega]
    rfl
/-- A row of entries. -/
abbrev Row (B g n cap : Nat) (l : List En) (w : World) : Prop := w.ownsRow B 32 4 (.slice (some ⟨g, 0, none⟩) n cap) n (flatE l)
theorem Row.put {B g n cap i : Nat} {l : List En} {w : World} (h : Row B g n cap l w) (hi : i < l.length) (x : En) :
    Row B g n cap (l.set i x) ((((w.setCell ⟨g, i * 4, none⟩ (.int .i64 x.b)).setCell ⟨g, i * 4 + 1, none⟩ (.int .i64 x.d)).setCell ⟨g, i * 4 + 2, none⟩ (.int .i64 x.s)).setCell ⟨g, i * 4 + 3, none⟩ (.int .i64 x.i)) := by
  have s1 := (h.stored (i * 4) (.int .i64 x.b)).1
  have s2 := (s1.stored (i * 4 + 1) (.int .i64 x.d)).1
  have s3 := (s2.stored (i * 4 + 2) (.int .i64 x.s)).1
  have s4 := (s3.stored (i * 4 + 3) (.int .i64 x.i)).1
  rw [flatE_set l i x hi] at s4
  exact s4
theorem grown_refl (w : World) (r : Option Nat) : w.grownBy w r := ⟨rfl, rfl, rfl, Nat.le_refl _, fun _ _ _ => rfl⟩
theorem grown_trans {w w' w'' : World} {r : Option Nat} (h : w.grownBy w' r) (k : w'.grownBy w'' r) : w.grownBy w'' r :=
  ⟨k.os.trans h.os, k.tape.trans h.tape, k.output.trans h.output, Nat.le_trans h.size k.size, fun j hj hn => (k.block j (Nat.lt_of_lt_of_le hj h.size) hn).trans (h.block j hj hn)⟩
theorem grown_below {w w' : World} {r : Option Nat} (h : Below w.heap.size w w') : w.grownBy w' r := ⟨h.os, h.tape, h.output, h.size, fun k hk _ => h.block k hk⟩
theorem grown_set4 {w : World} {g i : Nat} {v0 v1 v2 v3 : Value} : w.grownBy ((((w.setCell ⟨g, i * 4, none⟩ v0).setCell ⟨g, i * 4 + 1, none⟩ v1).setCell ⟨g, i * 4 + 2, none⟩ v2).setCell ⟨g, i * 4 + 3, none⟩ v3) (some g) := by
  refine ⟨rfl, rfl, rfl, by simp [World.setCell], fun k _ hk => ?_⟩
  have hk' : k ≠ g := fun e => hk (by rw [e])
  rw [Below.heap_setCell _ _ _ k hk', Below.heap_setCell _ _ _ k hk', Below.heap_setCell _ _ _ k hk', Below.heap_setCell _ _ _ k hk']

theorem Row.facts {B g n cap k : Nat} {l : List En} {w : World} (h : Row B g n cap l w) (hk : k < l.length) :
    ∃ z : En, w.cell? ⟨g, k * 4, none⟩ = some (.int .i64 z.b) ∧ w.cell? ⟨g, k * 4 + 1, none⟩ = some (.int .i64 z.d) ∧ w.cell? ⟨g, k * 4 + 2, none⟩ = some (.int .i64 z.s) ∧ w.cell? ⟨g, k * 4 + 3, none⟩ = some (.int .i64 z.i) ∧ w.frozen? ⟨g, k * 4, none⟩ = false ∧ w.frozen? ⟨g, k * 4 + 1, none⟩ = false ∧ w.frozen? ⟨g, k * 4 + 2, none⟩ = false ∧ w.frozen? ⟨g, k * 4 + 3, none⟩ = false := by
  obtain ⟨a, b, c, d⟩ := (own_list h).nth hk
  exact ⟨nth l k, a, b, c, d, h.frozenAt _, h.frozenAt _, h.frozenAt _, h.frozenAt _⟩
/-- What the memory is: as it was, behind the first store, behind both. -/
structure MSw (W0 W1 W2 : World) (e : Nat → Bool) (wr : World) : Prop where
  mk ::
  a : e 13 = false → wr = W0
  b : e 13 = true → e 15 = false → wr = W1
  c : e 15 = true → wr = W2
  d : e 13 = true → e 7 = true ∧ e 11 = true
  z : e 15 = true → e 13 = true
namespace MSw
variable {W0 W1 W2 wr : World} {e : Nat → Bool}
theorem start (W0 W1 W2 : World) : MSw W0 W1 W2 (fun _ => false) W0 := ⟨fun _ => rfl, (fun h => by cases h), (fun h => by cases h), (fun h => by cases h), (fun h => by cases h)⟩
theorem early (h : MSw W0 W1 W2 e wr) (k : e 7 = false ∨ e 11 = false) : wr = W0 := by
  refine h.a ?_
  cases hh : e 13 with
  | false => rfl
  | true =>
    obtain ⟨p, q⟩ := h.d hh
    rcases k with k | k
    · rw [p] at k; cases k
    · rw [q] at k; cases k
theorem first (h : MSw W0 W1 W2 e wr) (k : e 13 = false) : wr = W0 := h.a k
theorem second (h : MSw W0 W1 W2 e wr) (k : e 13 = true) (k' : e 15 = false) : wr = W1 := h.b k k'
theorem of {e' : Nat → Bool} (h : MSw W0 W1 W2 e wr) (h7 : e' 7 = e 7) (h11 : e' 11 = e 11) (h13 : e' 13 = e 13) (h15 : e' 15 = e 15) : MSw W0 W1 W2 e' wr :=
  ⟨by rw [h13]; exact h.a, by rw [h13, h15]; exact h.b, by rw [h15]; exact h.c, by rw [h13, h7, h11]; exact h.d, by rw [h13, h15]; exact h.z⟩
theorem set7 (h : MSw W0 W1 W2 e wr) : MSw W0 W1 W2 (upd e 7 true) wr := ⟨h.a, h.b, h.c, fun a => ⟨rfl, (h.d a).2⟩, h.z⟩
theorem set11 (h : MSw W0 W1 W2 e wr) : MSw W0 W1 W2 (upd e 11 true) wr := ⟨h.a, h.b, h.c, fun a => ⟨(h.d a).1, rfl⟩, h.z⟩
theorem set13 (h : MSw W0 W1 W2 e wr) (k : e 13 = false) (h7 : e 7 = true) (h11 : e 11 = true) : MSw W0 W1 W2 (upd e 13 true) W1 :=
  ⟨(fun a => by cases a), fun _ _ => rfl, (fun a => by have := h.z a; rw [k] at this; cases this), fun _ => ⟨h7, h11⟩, fun _ => rfl⟩
theorem set15 (h : MSw W0 W1 W2 e wr) (k : e 13 = true) : MSw W0 W1 W2 (upd e 15 true) W2 :=
  ⟨(fun a => by rw [show upd e 15 true 13 = e 13 from rfl, k] at a; cases a), (fun _ a => by cases a), fun _ => rfl, h.d, fun _ => k⟩
end MSw
theorem More.grown {w w' : World} {r : Option Nat} (h : More w w') : w.grownBy w' r := grown_below h.below
theorem Row.next {B g n cap : Nat} {l : List En} {w w' : World} (h : Row B g n cap l w) (m : More w w') : Row B g n cap l w' :=
  h.kept (row := none) m.grown (.inr (by simp [Value.ownBlock]))
/-- What copied answers: a row of its own. -/
def IsCopied (l : List En) (w : World) (e : Ending) (w' : World) : Prop :=
  e = .returned (.slice (some ⟨w.heap.size, 0, none⟩) l.length l.length) ∧ w'.heap[w.heap.size]? = some (.cells (flatE l).toArray 32 (0, 0)) ∧ Below w.heap.size w w'
/-- A list of entries of the caller's: nil, or in a block. -/
def Lists (w : World) (v : Value) (l : List En) : Prop := (v = .slice none 0 0 ∧ l = []) ∨ ∃ g c, v = .slice (some ⟨g, 0, none⟩) l.length c ∧ ListAt w g l
theorem lists_own {w : World} {B : Nat} {t : TypeId} {v : Value} {l : List En} (h : w.ownsRow B t 4 v l.length (flatE l)) : Lists w v l := by
  rcases h.2 with ⟨rfl, h0⟩ | ⟨g, cap, cur, rfl, _⟩
  · exact .inl ⟨rfl, List.eq_nil_of_length_eq_zero h0⟩
  · exact .inr ⟨g, cap, rfl, own_list h⟩
theorem IsCopied.row {l : List En} {w w' : World} {B : Nat} (hl : l.length ≤ 1000) (hB : B ≤ w.heap.size) (h : w'.heap[w.heap.size]? = some (.cells (flatE l).toArray 32 (0, 0))) : Row B w.heap.size l.length l.length l w' :=
  ⟨flatE_length l, .inr ⟨w.heap.size, l.length, (flatE l).toArray, rfl, hB, h, Nat.le_refl _, by unfold maxLen; omega, by simp [flatE_length], by simp [← flatE_length]⟩⟩

/-- A heap in memory: its block, the value of its list, the list. -/
structure HeapAtT (T : TypeId) (w : World) (B hb : Nat) (v : Value) (l : List En) : Prop where
  mk ::
  blk : w.heap[hb]? = some (.cells #[v] T (0, 0))
  ge : B ≤ hb
  row : w.ownsRow B 32 4 v l.length (flatE l)
  ne : ∀ q, v.ownBlock = some q → q ≠ hb
theorem HeapAtT.lt {w : World} {B hb : Nat} {v : Value} {l : List En} (h : HeapAtT T w B hb v l) : hb < w.heap.size := (Array.getElem?_eq_some_iff.1 h.blk).1
theorem HeapAtT.cell {w : World} {B hb : Nat} {v : Value} {l : List En} (h : HeapAtT T w B hb v l) : w.cell? ⟨hb, 0, none⟩ = some v := by rw [cell_of h.blk]; rfl
theorem HeapAtT.frozen {w : World} {B hb : Nat} {v : Value} {l : List En} (h : HeapAtT T w B hb v l) : w.frozen? ⟨hb, 0, none⟩ = false := frozen_of h.blk 0
theorem own_kept {w w' : World} {B : Nat} {T : TypeId} {v : Value} {n : Nat} {xs : List Value} (h : w.ownsRow B T 4 v n xs) (hb : Below w.heap.size w w') : w'.ownsRow B T 4 v n xs :=
  h.kept (row := none) (grown_below hb) (by cases hv : v.ownBlock <;> simp)
theorem HeapAtT.next {w w' : World} {B hb : Nat} {v : Value} {l : List En} (h : HeapAtT T w B hb v l) (hb' : Below w.heap.size w w') : HeapAtT T w' B hb v l :=
  ⟨(hb'.block _ h.lt).trans h.blk, h.ge, own_kept h.row hb', h.ne⟩
theorem HeapAtT.mono {w : World} {B B' hb : Nat} {v : Value} {l : List En} (h : HeapAtT T w B hb v l) (hB : B' ≤ B) : HeapAtT T w B' hb v l :=
  ⟨h.blk, Nat.le_trans hB h.ge, h.row.mono hB, h.ne⟩
theorem HeapAtT.slice {w : World} {B hb : Nat} {v : Value} {l : List En} (h : HeapAtT T w B hb v l) : ∃ p c, v = .slice p l.length c := by
  rcases h.row.2 with ⟨rfl, h0⟩ | ⟨g, cap, cur, rfl, _⟩
  · exact ⟨none, 0, by rw [h0]⟩
  · exact ⟨_, _, rfl⟩

/-- What Build answers: a heap with these entries. -/
def BuiltT (T : TypeId) (R : List En → Prop) (l : List En) (w : World) (e : Ending) (w' : World) : Prop :=
  ∃ hb v l', e = .returned (.pointer (some ⟨hb, 0, none⟩)) ∧ HeapAtT T w' w.heap.size hb v l' ∧ l'.Perm l ∧ R l' ∧ Below w.heap.size w w'
theorem below_set4 {B b : Nat} {w w' : World} (h : Below B w w') (hb : B ≤ b) (v0 v1 v2 v3 : Value) : Below B w ((((w'.setCell ⟨b, 0, none⟩ v0).setCell ⟨b, 1, none⟩ v1).setCell ⟨b, 2, none⟩ v2).setCell ⟨b, 3, none⟩ v3) :=
  (((h.setCell (p := ⟨b, 0, none⟩) hb v0).setCell (p := ⟨b, 1, none⟩) hb v1).setCell (p := ⟨b, 2, none⟩) hb v2).setCell (p := ⟨b, 3, none⟩) hb v3
/-- What is told of an empty heap. -/
def zeroE : En := ⟨0, 0, 0, 0⟩
def Told (x : En) (b : Bool) (w : World) (e : Ending) (w' : World) : Prop := e = .returned (.tuple #[entV x, .bool b]) ∧ Below w.heap.size w w'
theorem HeapAtT.form {w : World} {B hb : Nat} {v : Value} {l : List En} (h : HeapAtT T w B hb v l) (h0 : 0 < l.length) : ∃ g c, v = .slice (some ⟨g, 0, none⟩) l.length c ∧ ListAt w g l ∧ g < w.heap.size := by
  obtain ⟨g, c, rfl, _, hlt⟩ := h.row.form h0
  exact ⟨g, c, rfl, own_list h.row, hlt⟩
/-- Nothing but the heap at hb, whose list was v, and new blocks, has turned. -/
structure Off (w : World) (hb : Nat) (v : Value) (w' : World) : Prop where
  mk ::
  os : w'.os = w.os
  tape : w'.tape = w.tape
  output : w'.output = w.output
  size : w.heap.size ≤ w'.heap.size
  block : ∀ k, k < w.heap.size → k ≠ hb → v.ownBlock ≠ some k → w'.heap[k]? = w.heap[k]?
namespace Off
variable {w w' w'' : World} {hb g n c : Nat} {v : Value}
theorem start (h : Below w.heap.size w w') : Off w hb v w' := ⟨h.os, h.tape, h.output, h.size, fun k hk _ _ => h.block k hk⟩
theorem setCell (h : Off w hb v w') {a : Addr} (ha : a.block = hb ∨ v.ownBlock = some a.block ∨ w.heap.size ≤ a.block) (u : Value) : Off w hb v (w'.setCell a u) := by
  refine ⟨h.os, h.tape, h.output, by simpa [World.setCell] using h.size, fun k hk h1 h2 => ?_⟩
  rw [Below.heap_setCell _ _ _ k ?_]
  · exact h.block k hk h1 h2
  · rintro rfl
    rcases ha with ha | ha | ha
    · exact h1 ha
    · exact h2 ha
    · omega
theorem grown (h : Off w hb (.slice (some ⟨g, 0, none⟩) n c) w') (k : w'.grownBy w'' (some g)) : Off w hb (.slice (some ⟨g, 0, none⟩) n c) w'' :=
  ⟨k.os.trans h.os, k.tape.trans h.tape, k.output.trans h.output, Nat.le_trans h.size k.size, fun j hj h1 h2 => (k.block j (Nat.lt_of_lt_of_le hj h.size) (fun e => h2 (by simp at e; simp [Value.ownBlock, e]))).trans (h.block j hj h1 h2)⟩
theorem grownV (h : Off w hb v w') (k : w'.grownBy w'' v.ownBlock) : Off w hb v w'' :=
  ⟨k.os.trans h.os, k.tape.trans h.tape, k.output.trans h.output, Nat.le_trans h.size k.size, fun j hj h1 h2 => (k.block j (Nat.lt_of_lt_of_le hj h.size) (fun e => h2 e.symm)).trans (h.block j hj h1 h2)⟩
theorem grownN (h : Off w hb v w') (hg : v.ownBlock = some g ∨ w.heap.size ≤ g) (k : w'.grownBy w'' (some g)) : Off w hb v w'' := by
  refine ⟨k.os.trans h.os, k.tape.trans h.tape, k.output.trans h.output, Nat.le_trans h.size k.size, fun j hj h1 h2 => (k.block j (Nat.lt_of_lt_of_le hj h.size) (fun e => ?_)).trans (h.block j hj h1 h2)⟩
  simp at e
  subst e
  rcases hg with hg | hg
  · exact h2 hg
  · omega
theorem below (h : Off w hb v w') (k : Below w'.heap.size w' w'') : Off w hb v w'' :=
  ⟨k.os.trans h.os, k.tape.trans h.tape, k.output.trans h.output, Nat.le_trans h.size k.size, fun j hj h1 h2 => (k.block j (Nat.lt_of_lt_of_le hj h.size)).trans (h.block j hj h1 h2)⟩
theorem set4 (h : Off w hb v w') {b o : Nat} (ha : b = hb ∨ v.ownBlock = some b ∨ w.heap.size ≤ b) (v0 v1 v2 v3 : Value) : Off w hb v ((((w'.setCell ⟨b, o, none⟩ v0).setCell ⟨b, o + 1, none⟩ v1).setCell ⟨b, o + 2, none⟩ v2).setCell ⟨b, o + 3, none⟩ v3) :=
  (((h.setCell (a := ⟨b, o, none⟩) ha v0).setCell (a := ⟨b, o + 1, none⟩) ha v1).setCell (a := ⟨b, o + 2, none⟩) ha v2).setCell (a := ⟨b, o + 3, none⟩) ha v3
/-- Below all that has turned nothing has. -/
theorem under (h : Off w hb v w') {B : Nat} (h1 : B ≤ hb) (h2 : ∀ q, v.ownBlock = some q → B ≤ q) (h3 : B ≤ w.heap.size) : Below B w w' :=
  ⟨h.os, h.tape, h.output, h.size, fun k hk => h.block k (by omega) (by omega) (fun e => by have := h2 k e; omega)⟩
end Off
theorem HeapAtT.off {w w' : World} {B hb hb' : Nat} {v v' : Value} {l : List En} (h : HeapAtT T w B hb v l) (ho : Off w hb' v' w') (h1 : hb ≠ hb') (h2 : v'.ownBlock ≠ some hb) (h3 : ∀ q, v.ownBlock = some q → q ≠ hb' ∧ v'.ownBlock ≠ some q) : HeapAtT T w' B hb v l := by
  refine ⟨(ho.block _ h.lt h1 h2).trans h.blk, h.ge, ⟨h.row.1, ?_⟩, h.ne⟩
  rcases h.row.2 with hn | ⟨g, cap, cur, rfl, hb, hgg, rest⟩
  · exact .inl hn
  · obtain ⟨q1, q2⟩ := h3 g rfl
    exact .inr ⟨g, cap, cur, rfl, hb, (ho.block g (Array.getElem?_eq_some_iff.1 hgg).1 q1 q2).trans hgg, rest⟩
theorem row_off {w w' : World} {B hb n : Nat} {T : TypeId} {v u : Value} {xs : List Value} (h : w.ownsRow B T 4 u n xs) (ho : Off w hb v w') (h3 : ∀ q, u.ownBlock = some q → q ≠ hb ∧ v.ownBlock ≠ some q) : w'.ownsRow B T 4 u n xs := by
  refine ⟨h.1, ?_⟩
  rcases h.2 with hn | ⟨g, cap, cur, rfl, hb, hgg, rest⟩
  · exact .inl hn
  · obtain ⟨q1, q2⟩ := h3 g rfl
    exact .inr ⟨g, cap, cur, rfl, hb, (ho.block g (Array.getElem?_eq_some_iff.1 hgg).1 q1 q2).trans hgg, rest⟩

theorem flatE_take (l : List En) (m : Nat) : (flatE l).take (m * 4) = flatE (l.take m) := by
  induction m generalizing l with
  | zero => simp [flatE_nil]
  | succ m ih =>
    cases l with
    | nil => simp [flatE_nil]
    | cons x r =>
      rw [List.take_succ_cons, flatE_cons, flatE_cons, ← ih r, show (m + 1) * 4 = m * 4 + 4 by omega]
      rfl
theorem Row.cut {B g n m cap : Nat} {l : List En} {w : World} (h : Row B g n cap l w) (hm : m ≤ n) : Row B g m cap (l.take m) w := by
  have hlen := h.1
  rw [flatE_length] at hlen
  rcases h.2 with ⟨h', _⟩ | ⟨g', cap', cur, h', hb, hg, hnc, hcm, hcs, htake⟩
  · simp at h'
  · simp only [Value.slice.injEq, Option.some.injEq, Addr.mk.injEq, and_true, true_and] at h'
    obtain ⟨rfl, rfl⟩ := h'
    refine ⟨by rw [flatE_length, List.length_take]; omega, .inr ⟨g, cap, cur, rfl, hb, hg, by omega, hcm, hcs, ?_⟩⟩
    rw [← flatE_take, ← htake, List.take_take]
    congr 1
    omega

theorem own_cap {w : World} {B n m g c : Nat} {T : TypeId} {xs : List Value} (h : w.ownsRow B T 4 (.slice (some ⟨g, 0, none⟩) n c) m xs) : m ≤ c := by
  rcases h.2 with ⟨h', _⟩ | ⟨g', cap', cur, h', _, _, hnc, _⟩
  · simp at h'
  · simp at h'; omega
/-- A cell of an old block; an entry in an old row. -/
structure CBox (b : Nat) (v : Value) (w : World) : Prop where
  mk ::
  c : w.cell? ⟨b, 0, none⟩ = some v
  lt : b < w.heap.size
theorem CBox.next {b : Nat} {v : Value} {w w' : World} (h : CBox b v w) (hb : Below w.heap.size w w') : CBox b v w' :=
  ⟨by rw [hb.cell (by exact h.lt)]; exact h.c, Nat.lt_of_lt_of_le h.lt hb.size⟩
structure IBox (g i : Nat) (x : En) (w : World) : Prop where
  mk ::
  c0 : w.cell? ⟨g, i * 4, none⟩ = some (.int .i64 x.b)
  c1 : w.cell? ⟨g, i * 4 + 1, none⟩ = some (.int .i64 x.d)
  c2 : w.cell? ⟨g, i * 4 + 2, none⟩ = some (.int .i64 x.s)
  c3 : w.cell? ⟨g, i * 4 + 3, none⟩ = some (.int .i64 x.i)
  lt : g < w.heap.size
theorem IBox.next {g i : Nat} {x : En} {w w' : World} (h : IBox g i x w) (hb : Below w.heap.size w w') : IBox g i x w' :=
  ⟨by rw [hb.cell (by exact h.lt)]; exact h.c0, by rw [hb.cell (by exact h.lt)]; exact h.c1, by rw [hb.cell (by exact h.lt)]; exact h.c2, by rw [hb.cell (by exact h.lt)]; exact h.c3, Nat.lt_of_lt_of_le h.lt hb.size⟩

/-- The state inside take: the heap, the variable x at xb, the result at the first new block. -/
structure TkStT (T : TypeId) (B hb gr c n n' : Nat) (l' : List En) (x : En) (xb : Nat) (w wr : World) : Prop where
  mk ::
  at_ : HeapAtT T wr B hb (.slice (some ⟨gr, 0, none⟩) n' c) l'
  off : Off w hb (.slice (some ⟨gr, 0, none⟩) n c) wr
  x_ : wr.heap[xb]? = some (.cells #[.int .i64 x.b, .int .i64 x.d, .int .i64 x.s, .int .i64 x.i] 32 (0, 0))
  r_ : wr.heap[w.heap.size]? = some (.cells #[.int .i64 0, .int .i64 0, .int .i64 0, .int .i64 0] 32 (0, 0))
  lt : hb < w.heap.size ∧ gr < w.heap.size ∧ w.heap.size < xb
namespace TkStT
variable {B hb gr c n n' m xb : Nat} {l' l'' : List En} {x : En} {w wr w' : World}
theorem turn (h : TkStT T B hb gr c n n' l' x xb w wr) (ha : HeapAtT T w' B hb (.slice (some ⟨gr, 0, none⟩) m c) l'') (ho : Off w hb (.slice (some ⟨gr, 0, none⟩) n c) w') (hk : ∀ k, k < wr.heap.size → k ≠ hb → k ≠ gr → w'.heap[k]? = wr.heap[k]?) : TkStT T B hb gr c n m l'' x xb w w' := by
  obtain ⟨l1, l2, l3⟩ := h.lt
  exact ⟨ha, ho, (hk _ (Array.getElem?_eq_some_iff.1 h.x_).1 (by omega) (by omega)).trans h.x_, (hk _ (Array.getElem?_eq_some_iff.1 h.r_).1 (by omega) (by omega)).trans h.r_, h.lt⟩
theorem next (h : TkStT T B hb gr c n n' l' x xb w wr) (b : Below wr.heap.size wr w') : TkStT T B hb gr c n n' l' x xb w w' :=
  h.turn (h.at_.next b) (h.off.below b) (fun k hk _ _ => b.block k hk)
theorem len (h : TkStT T B hb gr c n n' l' x xb w wr) : l'.length = n' := by
  rcases h.at_.row.2 with ⟨h', _⟩ | ⟨g', cap', cur, h', _⟩
  · simp at h'
  · simp at h'; exact h'.2.1.symm
theorem put (h : TkStT T B hb gr c n n' l' x xb w wr) {ix : Nat} (hi : ix < l'.length) (y : En) :
    TkStT T B hb gr c n n' (l'.set ix y) x xb w ((((wr.setCell ⟨gr, ix * 4, none⟩ (.int .i64 y.b)).setCell ⟨gr, ix * 4 + 1, none⟩ (.int .i64 y.d)).setCell ⟨gr, ix * 4 + 2, none⟩ (.int .i64 y.s)).setCell ⟨gr, ix * 4 + 3, none⟩ (.int .i64 y.i)) := by
  have hne := h.at_.ne gr rfl
  have g4 := grown_set4 (w := wr) (g := gr) (i := ix) (v0 := .int .i64 y.b) (v1 := .int .i64 y.d) (v2 := .int .i64 y.s) (v3 := .int .i64 y.i)
  have hr : Row B gr n' c l' wr := by have q := h.at_.row; rw [h.len] at q; exact q
  have hlen := h.len
  refine h.turn ⟨(g4.block _ h.at_.lt (by simp; exact fun e => hne e.symm)).trans h.at_.blk, h.at_.ge, ?_, h.at_.ne⟩ (h.off.grown g4) (fun k hk _ h2 => g4.block k hk (by simp; exact h2))
  rw [List.length_set, hlen]
  exact hr.put hi y
theorem cut (h : TkStT T B hb gr c n n' l' x xb w wr) (hm : m ≤ n') : TkStT T B hb gr c n m (l'.take m) x xb w (wr.setCell ⟨hb, 0, none⟩ (.slice (some ⟨gr, 0, none⟩) m c)) := by
  have hne := h.at_.ne gr rfl
  have hr : Row B gr n' c l' wr := by have q := h.at_.row; rw [h.len] at q; exact q
  have hlen := h.len
  have hk : ∀ k, k ≠ hb → (wr.setCell ⟨hb, 0, none⟩ (.slice (some ⟨gr, 0, none⟩) m c)).heap[k]? = wr.heap[k]? := fun k hk => Below.heap_setCell _ _ _ k hk
  refine h.turn ⟨?_, h.at_.ge, ?_, fun q hq => ?_⟩ (h.off.setCell (.inl rfl) _) (fun k _ h1 _ => hk k h1)
  · have := set_block (o := 0) (v := .slice (some ⟨gr, 0, none⟩) m c) h.at_.blk
    exact this
  · rw [List.length_take, hlen, Nat.min_eq_left hm]
    have q := hr.cut hm
    exact q.kept (row := some hb) ⟨rfl, rfl, rfl, by simp [World.setCell], fun k _ h1 => hk k (by simpa using h1)⟩ (.inr (by simp [Value.ownBlock]; exact hne))
  · exact h.at_.ne q hq
theorem sunk (h : TkStT T B hb gr c n n' l' x xb w wr) (hr : Row B gr n' c l'' w') (hg : wr.grownBy w' (some gr)) (hl : l''.length = n') : TkStT T B hb gr c n n' l'' x xb w w' := by
  have hne := h.at_.ne gr rfl
  refine h.turn ⟨(hg.block _ h.at_.lt (by simp; exact fun e => hne e.symm)).trans h.at_.blk, h.at_.ge, by rw [hl]; exact hr, h.at_.ne⟩ (h.off.grown hg) (fun k hk _ h2 => hg.block k hk (by simp; exact h2))
theorem took (h : TkStT T B hb gr c n n' l' x xb w wr) (v0 v1 v2 v3 : Value) : HeapAtT T ((((wr.setCell ⟨w.heap.size, 0, none⟩ v0).setCell ⟨w.heap.size, 1, none⟩ v1).setCell ⟨w.heap.size, 2, none⟩ v2).setCell ⟨w.heap.size, 3, none⟩ v3) B hb (.slice (some ⟨gr, 0, none⟩) n' c) l' ∧ Off w hb (.slice (some ⟨gr, 0, none⟩) n c) ((((wr.setCell ⟨w.heap.size, 0, none⟩ v0).setCell ⟨w.heap.size, 1, none⟩ v1).setCell ⟨w.heap.size, 2, none⟩ v2).setCell ⟨w.heap.size, 3, none⟩ v3) := by
  obtain ⟨l1, l2, _⟩ := h.lt
  have o4 := only4 (b := w.heap.size) (v0 := v0) (v1 := v1) (v2 := v2) (v3 := v3) (w := wr)
  refine ⟨⟨(o4.block _ (by omega)).trans h.at_.blk, h.at_.ge, ?_, h.at_.ne⟩, h.off.set4 (.inr (.inr (Nat.le_refl _))) _ _ _ _⟩
  exact h.at_.row.kept (row := some w.heap.size) ⟨o4.os, o4.tape, o4.output, by rw [o4.size]; exact Nat.le_refl _, fun k _ hk => o4.block k (by simpa using hk)⟩ (.inr (by simp [Value.ownBlock]; omega))
end TkStT
theorem Off.trans {w w' w'' : World} {hb : Nat} {v : Value} (h : Off w hb v w') (k : Off w' hb v w'') : Off w hb v w'' :=
  ⟨k.os.trans h.os, k.tape.trans h.tape, k.output.trans h.output, Nat.le_trans h.size k.size, fun j hj h1 h2 => (k.block j (Nat.lt_of_lt_of_le hj h.size) h1 h2).trans (h.block j hj h1 h2)⟩
/-- What is left when x was popped. -/
def PoppedT (T : TypeId) (R : List En → Prop) (B hb : Nat) (v : Value) (l : List En) (x : En) (w w' : World) : Prop :=
  ∃ v' l', HeapAtT T w' B hb v' l' ∧ Off w hb v w' ∧ R l' ∧ (x :: l').Perm l ∧ ∀ q, v'.ownBlock = some q → v.ownBlock = some q
theorem PoppedT.result {B hb : Nat} {v : Value} {l : List En} {x : En} {w w1 w2 : World} (h : PoppedT T R B hb v l x w1 w2) (hb1 : Below w.heap.size w w1) (_hlt : w.heap.size < w1.heap.size) (hh : hb < w.heap.size) (hv : ∀ q, v.ownBlock = some q → q < w.heap.size) (v0 v1 v2 v3 : Value) :
    PoppedT T R B hb v l x w ((((w2.setCell ⟨w.heap.size, 0, none⟩ v0).setCell ⟨w.heap.size, 1, none⟩ v1).setCell ⟨w.heap.size, 2, none⟩ v2).setCell ⟨w.heap.size, 3, none⟩ v3) := by
  obtain ⟨v', l', ha, ho, hr, hp, hq⟩ := h
  have o4 := only4 (b := w.heap.size) (v0 := v0) (v1 := v1) (v2 := v2) (v3 := v3) (w := w2)
  refine ⟨v', l', ⟨(o4.block _ (by omega)).trans ha.blk, ha.ge, ?_, ha.ne⟩, ((Off.start hb1).trans ho).set4 (.inr (.inr (Nat.le_refl _))) _ _ _ _, hr, hp, hq⟩
  refine ha.row.kept (row := some w.heap.size) ⟨o4.os, o4.tape, o4.output, by rw [o4.size]; exact Nat.le_refl _, fun k _ hk => o4.block k (by simpa using hk)⟩ (.inr ?_)
  intro e
  have := hv _ (hq _ e)
  omega
/-- What a pop answers. -/
def IsPoppedT (T : TypeId) (R : List En → Prop) (B hb : Nat) (v : Value) (l : List En) (x : En) (w : World) (e : Ending) (w' : World) : Prop := e = .returned (.tuple #[entV x, .bool true]) ∧ PoppedT T R B hb v l x w w'
theorem PoppedT.cells {B hb : Nat} {v : Value} {l : List En} {x : En} {w1 w2 : World} {r : Nat} {o : Obj} (h : PoppedT T R B hb v l x w1 w2) (hr : w1.heap[r]? = some o) (h1 : r ≠ hb) (h2 : v.ownBlock ≠ some r) : w2.heap[r]? = some o := by
  obtain ⟨_, _, _, ho, _⟩ := h
  exact (ho.block _ (Array.getElem?_eq_some_iff.1 hr).1 h1 h2).trans hr
/-- What the append leaves: the row g, of capacity cap. -/
structure AppOk (B n : Nat) (v : Value) (l : List En) (x : En) (w1 : World) (g cap : Nat) (wq : World) : Prop where
  mk ::
  own : wq.ownsRow B 32 4 (.slice (some ⟨g, 0, none⟩) (n + 1) cap) (n + 1) (flatE (l ++ [x]))
  grow : w1.grownBy wq v.ownBlock
  at_ : v.ownBlock = some g ∨ g = w1.heap.size
/-- The memory in Push's region. -/
structure MPush (B hb n : Nat) (v : Value) (l : List En) (x : En) (w0 w1 : World) (e : Nat → Bool) (t13 : Value) (wr : World) : Prop where
  mk ::
  a : e 6 = false → wr = w0
  b : e 6 = true → e 7 = false → wr = w1
  c : e 7 = true → e 10 = false → ∃ g cap, t13 = .slice (some ⟨g, 0, none⟩) (n + 1) cap ∧ AppOk B n v l x w1 g cap wr
  d : e 10 = true → ∃ g cap wq, AppOk B n v l x w1 g cap wq ∧ wr = wq.setCell ⟨hb, 0, none⟩ (.slice (some ⟨g, 0, none⟩) (n + 1) cap)
  z7 : e 7 = true → e 4 = true ∧ e 6 = true
  z6 : e 6 = true → e 5 = true
  z10 : e 10 = true → e 7 = true
namespace MPush
variable {B hb n : Nat} {v t13 : Value} {l : List En} {x : En} {w0 w1 wr : World} {e e' : Nat → Bool}
theorem start (B hb n : Nat) (v t13 : Value) (l : List En) (x : En) (w0 w1 : World) : MPush B hb n v l x w0 w1 (fun _ => false) t13 w0 :=
  ⟨fun _ => rfl, (fun h => by cases h), (fun h => by cases h), (fun h => by cases h), (fun h => by cases h), (fun h => by cases h), (fun h => by cases h)⟩
theorem of (h : MPush B hb n v l x w0 w1 e t13 wr) (h6 : e' 6 = e 6) (h7 : e' 7 = e 7) (h10 : e' 10 = e 10) (h4 : e' 4 = e 4 ∨ e' 4 = true) (h5 : e' 5 = e 5 ∨ e' 5 = true) : MPush B hb n v l x w0 w1 e' t13 wr := by
  refine ⟨by rw [h6]; exact h.a, by rw [h6, h7]; exact h.b, by rw [h7, h10]; exact h.c, by rw [h10]; exact h.d, fun k => ?_, fun k => ?_, by rw [h10, h7]; exact h.z10⟩
  · rw [h7] at k
    obtain ⟨p, q⟩ := h.z7 k
    rw [h6]
    rw [p] at h4
    simp at h4
    exact ⟨h4, q⟩
  · rw [h6] at k
    have p := h.z6 k
    rw [p] at h5
    simpa using h5
theorem not7 (h : MPush B hb n v l x w0 w1 e t13 wr) (k : e 4 = false ∨ e 6 = false) : e 7 = false := by
  cases hh : e 7 with
  | false => rfl
  | true =>
    obtain ⟨p, q⟩ := h.z7 hh
    rw [p, q] at k
    simp at k
theorem not6 (h : MPush B hb n v l x w0 w1 e t13 wr) (k : e 5 = false) : e 6 = false := by
  cases hh : e 6 with
  | false => rfl
  | true => have := h.z6 hh; rw [k] at this; cases this
theorem not10 (h : MPush B hb n v l x w0 w1 e t13 wr) (k : e 7 = false) : e 10 = false := by
  cases hh : e 10 with
  | false => rfl
  | true => have := h.z10 hh; rw [k] at this; cases this
theorem early (h : MPush B hb n v l x w0 w1 e t13 wr) (k : e 7 = false) (hb1 : Below w0.heap.size w0 w1) : Below w0.heap.size w0 wr := by
  cases hh : e 6 with
  | false => rw [h.a hh]; exact Below.refl _ _
  | true => rw [h.b hh k]; exact hb1
theorem set6 (h : MPush B hb n v l x w0 w1 e t13 wr) (k : e 6 = false) (k5 : e 5 = true) : MPush B hb n v l x w0 w1 (upd e 6 true) t13 w1 := by
  have k7 := h.not7 (.inr k)
  have k10 := h.not10 k7
  exact ⟨(fun a => by cases a), fun _ _ => rfl, (fun a => by rw [show upd e 6 true 7 = e 7 from rfl, k7] at a; cases a), (fun a => by rw [show upd e 6 true 10 = e 10 from rfl, k10] at a; cases a), (fun a => by rw [show upd e 6 true 7 = e 7 from rfl, k7] at a; cases a), fun _ => k5, h.z10⟩
theorem set7 (h : MPush B hb n v l x w0 w1 e t13 wr) (k : e 7 = false) (k4 : e 4 = true) (k6 : e 6 = true) {g cap : Nat} {wq : World} (hA : AppOk B n v l x w1 g cap wq) : MPush B hb n v l x w0 w1 (upd e 7 true) (.slice (some ⟨g, 0, none⟩) (n + 1) cap) wq := by
  have k10 := h.not10 k
  exact ⟨(fun a => by rw [show upd e 7 true 6 = e 6 from rfl, k6] at a; cases a), (fun _ a => by cases a), fun _ _ => ⟨g, cap, rfl, hA⟩, (fun a => by rw [show upd e 7 true 10 = e 10 from rfl, k10] at a; cases a), fun _ => ⟨k4, k6⟩, h.z6, fun _ => rfl⟩
theorem set10 (h : MPush B hb n v l x w0 w1 e t13 wr) (k7 : e 7 = true) {g cap : Nat} (hA : AppOk B n v l x w1 g cap wr) : MPush B hb n v l x w0 w1 (upd e 10 true) t13 (wr.setCell ⟨hb, 0, none⟩ (.slice (some ⟨g, 0, none⟩) (n + 1) cap)) :=
  ⟨(fun a => by have := (h.z7 k7).2; rw [show upd e 10 true 6 = e 6 from rfl, this] at a; cases a), (fun _ a => by rw [show upd e 10 true 7 = e 7 from rfl, k7] at a; cases a), (fun _ a => by cases a), fun _ => ⟨g, cap, wr, hA, rfl⟩, h.z7, h.z6, fun _ => k7⟩
end MPush
/-- What Push leaves. -/
def PushedT (T : TypeId) (R : List En → Prop) (B hb : Nat) (v : Value) (l : List En) (x : En) (w : World) (e : Ending) (w' : World) : Prop :=
  ∃ v' l', e = .returned (.tuple #[]) ∧ HeapAtT T w' B hb v' l' ∧ Off w hb v w' ∧ R l' ∧ l'.Perm (l ++ [x]) ∧ ∀ q, v'.ownBlock = some q → v.ownBlock = some q ∨ w.heap.size ≤ q
/-- What the region of a call that tells an entry reads. -/
structure MaxSt (w : World) (hb g m n c : Nat) (x : En) (wr : World) : Prop where
  mk ::
  cs : wr.cell? ⟨hb, 0, none⟩ = some (.slice (some ⟨g, 0, none⟩) n c) ∧ wr.cell? ⟨g, m * 4, none⟩ = some (.int .i64 x.b) ∧ wr.cell? ⟨g, m * 4 + 1, none⟩ = some (.int .i64 x.d) ∧ wr.cell? ⟨g, m * 4 + 2, none⟩ = some (.int .i64 x.s) ∧ wr.cell? ⟨g, m * 4 + 3, none⟩ = some (.int .i64 x.i) ∧
    wr.cell? ⟨w.heap.size, 0, none⟩ = some (.int .i64 0) ∧ wr.cell? ⟨w.heap.size, 1, none⟩ = some (.int .i64 0) ∧ wr.cell? ⟨w.heap.size, 2, none⟩ = some (.int .i64 0) ∧ wr.cell? ⟨w.heap.size, 3, none⟩ = some (.int .i64 0) ∧
    wr.frozen? ⟨w.heap.size, 0, none⟩ = false ∧ wr.frozen? ⟨w.heap.size, 1, none⟩ = false ∧ wr.frozen? ⟨w.heap.size, 2, none⟩ = false ∧ wr.frozen? ⟨w.heap.size, 3, none⟩ = false
  r : wr.heap[w.heap.size]? = some (.cells #[.int .i64 0, .int .i64 0, .int .i64 0, .int .i64 0] 32 (0, 0))
  lt : hb < w.heap.size ∧ g < w.heap.size
  be : Below w.heap.size w wr
theorem MaxSt.make {w wr : World} {hb g m n c : Nat} {x : En} (cs : wr.cell? ⟨hb, 0, none⟩ = some (.slice (some ⟨g, 0, none⟩) n c) ∧ wr.cell? ⟨g, m * 4, none⟩ = some (.int .i64 x.b) ∧ wr.cell? ⟨g, m * 4 + 1, none⟩ = some (.int .i64 x.d) ∧ wr.cell? ⟨g, m * 4 + 2, none⟩ = some (.int .i64 x.s) ∧ wr.cell? ⟨g, m * 4 + 3, none⟩ = some (.int .i64 x.i))
    (r : wr.heap[w.heap.size]? = some (.cells #[.int .i64 0, .int .i64 0, .int .i64 0, .int .i64 0] 32 (0, 0))) (lt : hb < w.heap.size ∧ g < w.heap.size) (be : Below w.heap.size w wr) : MaxSt w hb g m n c x wr := by
  obtain ⟨a, b0, b1, b2, b3⟩ := cs
  obtain ⟨q0, q1, q2, q3, f0, f1, f2, f3, _⟩ := cells4 r
  exact ⟨⟨a, b0, b1, b2, b3, q0, q1, q2, q3, f0, f1, f2, f3⟩, r, lt, be⟩
theorem MaxSt.next {w wr w' : World} {hb g m n c : Nat} {x : En} (h : MaxSt w hb g m n c x wr) (b : Below wr.heap.size wr w') : MaxSt w hb g m n c x w' := by
  obtain ⟨⟨a, b0, b1, b2, b3, _⟩, r, ⟨l1, l2⟩, be⟩ := h
  have hs := be.size
  refine MaxSt.make ?_ ((b.block _ (Array.getElem?_eq_some_iff.1 r).1).trans r) ⟨l1, l2⟩ (be.trans (b.mono hs))
  rw [b.cell (by show hb < _; omega), b.cell (by show g < _; omega), b.cell (by show g < _; omega), b.cell (by show g < _; omega), b.cell (by show g < _; omega)]
  exact ⟨a, b0, b1, b2, b3⟩
/-- The memory in the region of a call that tells an entry: with the result told, or not. -/
structure MMax (w : World) (hb g m n c : Nat) (x : En) (e : Nat → Bool) (wr : World) : Prop where
  mk ::
  a : e 11 = false → MaxSt w hb g m n c x wr
  b : e 11 = true → ∃ wn, MaxSt w hb g m n c x wn ∧ wr = (((wn.setCell ⟨w.heap.size, 0, none⟩ (.int .i64 x.b)).setCell ⟨w.heap.size, 1, none⟩ (.int .i64 x.d)).setCell ⟨w.heap.size, 2, none⟩ (.int .i64 x.s)).setCell ⟨w.heap.size, 3, none⟩ (.int .i64 x.i)
  d : e 11 = true → e 3 = true ∧ e 7 = true ∧ e 8 = true ∧ e 10 = true
namespace MMax
variable {w wr w' : World} {hb g m n c : Nat} {x : En} {e : Nat → Bool}
theorem st (h : MMax w hb g m n c x e wr) (k : e 3 = false ∨ e 7 = false ∨ e 8 = false ∨ e 10 = false ∨ e 11 = false) : e 11 = false ∧ MaxSt w hb g m n c x wr := by
  have : e 11 = false := by
    cases hh : e 11 with
    | false => rfl
    | true =>
      obtain ⟨p, q, r, s⟩ := h.d hh
      rw [p, q, r, s, hh] at k
      simp at k
  exact ⟨this, h.a this⟩
theorem of (h : MMax w hb g m n c x e wr) {e' : Nat → Bool} (h11 : e' 11 = e 11) (h3 : e' 3 = e 3 ∨ e' 3 = true) (h7 : e' 7 = e 7 ∨ e' 7 = true) (h8 : e' 8 = e 8 ∨ e' 8 = true) (h10 : e' 10 = e 10 ∨ e' 10 = true) : MMax w hb g m n c x e' wr := by
  refine ⟨by rw [h11]; exact h.a, by rw [h11]; exact h.b, fun k => ?_⟩
  rw [h11] at k
  obtain ⟨p, q, r, s⟩ := h.d k
  rw [p] at h3
  rw [q] at h7
  rw [r] at h8
  rw [s] at h10
  simp at h3 h7 h8 h10
  exact ⟨h3, h7, h8, h10⟩
theorem call (h : MMax w hb g m n c x e wr) (k : e 8 = false) (b : Below wr.heap.size wr w') : MMax w hb g m n c x (upd e 8 true) w' := by
  obtain ⟨k1, k2⟩ := h.st (.inr (.inr (.inl k)))
  exact ⟨fun _ => k2.next b, (fun hh => by rw [show upd e 8 true 11 = e 11 from rfl, k1] at hh; cases hh), (fun hh => by rw [show upd e 8 true 11 = e 11 from rfl, k1] at hh; cases hh)⟩
theorem store (h : MMax w hb g m n c x e wr) (k : e 11 = false) (k3 : e 3 = true) (k7 : e 7 = true) (k8 : e 8 = true) (k10 : e 10 = true) : MMax w hb g m n c x (upd e 11 true) ((((wr.setCell ⟨w.heap.size, 0, none⟩ (.int .i64 x.b)).setCell ⟨w.heap.size, 1, none⟩ (.int .i64 x.d)).setCell ⟨w.heap.size, 2, none⟩ (.int .i64 x.s)).setCell ⟨w.heap.size, 3, none⟩ (.int .i64 x.i)) :=
  ⟨(fun hh => by cases hh), fun _ => ⟨wr, h.a k, rfl⟩, fun _ => ⟨k3, k7, k8, k10⟩⟩
end MMax
theorem HeapAtT.offs {w w' : World} {B hb gb : Nat} {v u : Value} {l : List En} (h : HeapAtT T w B hb v l) (ho : Off w gb u w') (h1 : hb ≠ gb) (h2 : u.ownBlock ≠ some hb) (h3 : ∀ q, v.ownBlock = some q → q ≠ gb ∧ u.ownBlock ≠ some q) : HeapAtT T w' B hb v l :=
  ⟨(ho.block hb h.lt h1 h2).trans h.blk, h.ge, row_off h.row ho h3, h.ne⟩
theorem HeapAtT.beneath {w w' : World} {B hb N : Nat} {v : Value} {l : List En} (h : HeapAtT T w B hb v l) (b : Below N w w') (h1 : hb < N) (h2 : ∀ q, v.ownBlock = some q → q < N) : HeapAtT T w' B hb v l := by
  refine ⟨(b.block _ h1).trans h.blk, h.ge, ⟨h.row.1, ?_⟩, h.ne⟩
  rcases h.row.2 with hn | ⟨g, cap, cur, rfl, hb, hgg, rest⟩
  · exact .inl hn
  · exact .inr ⟨g, cap, cur, rfl, hb, (b.block g (h2 g rfl)).trans hgg, rest⟩
theorem Lists.next {w w' : World} {v : Value} {l : List En} (h : Lists w v l) (b : Below w.heap.size w w') : Lists w' v l := by
  rcases h with h | ⟨g, c, h1, h2⟩
  · exact .inl h
  · exact .inr ⟨g, c, h1, h2.next b⟩
end Go.Proofs.Ytiighhcilgjebaa
