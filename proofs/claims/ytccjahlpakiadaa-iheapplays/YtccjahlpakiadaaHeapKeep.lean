/-
  What the last two laws of layer 5 keep: truths that came in; a heap beside another one's calls; a list of entries in one known block, wherever it begins there; a heap and the document's list of it.
-/
import Derived.Test.YtccjahlpakiadaaHeapFrame3
import Derived.Test.YtccjahlpakiadaaRefPop
import Derived.Deep.Grids
namespace Go.Proofs.Ytccjahlpakiadaa.I
set_option maxRecDepth 100000
open Go.Joins Go.ChangeShapes Go.WideShapes Go.ChangeAt Go.RowKit

theorem cells_bool : Try.prog.cellsOf 4 = 1 := by kernel_rfl
/-- The truths of a slice that came in. -/
structure Truths (w : World) (p : Option Addr) (len : Nat) (t : Nat → Bool) : Prop where
  mk ::
  at_ : 0 < len → ∃ b off, p = some ⟨b, off, none⟩ ∧ b < w.heap.size ∧ ∀ i, i < len → w.cell? ⟨b, off + i, none⟩ = some (.bool (t i))
theorem Truths.below {w w' : World} {p : Option Addr} {len : Nat} {t : Nat → Bool} (h : Truths w p len t) (hb : Below w.heap.size w w') : Truths w' p len t := by
  refine ⟨fun h0 => ?_⟩
  obtain ⟨b, off, h1, h2, h3⟩ := h.at_ h0
  refine ⟨b, off, h1, Nat.lt_of_lt_of_le h2 hb.size, fun i hi => ?_⟩
  rw [hb.cell (by exact h2)]
  exact h3 i hi
def IsTruths (w : World) (a : Option Addr) (len cap : Nat) (t : Nat → Bool) : Prop := Truths w a len t ∧ len ≤ cap ∧ cap ≤ maxLen
section
variable {H : Type} {enc : TypeId × Value → H} {W : World} {b0 base : Nat} {held : Bool} {r : Reach} {v : Value} {d : DataW H} {p : List MemPlace}
theorem open_bools (hv : Value.okWide Try.prog W r b0 51 v) (h : DataW.Trod enc Try.prog W base (fun _ => true) held 51 v d p) : ∃ (a : Option Addr) (len cap : Nat) (t : Nat → Bool), IsTruths W a len cap t ∧ v = .slice a len cap := by
  obtain ⟨a0, len0, cap0, rfl⟩ := okWide_slice Try.underlying51 hv
  obtain ⟨fuel, hf⟩ := h
  rcases Go.Deep.open_bools Try.underlying51 Try.underlying4 cells_bool hf with ⟨hcs, _⟩ | ⟨x, l, c, B, hcs, _, hl, hm, _, hcell⟩
  · simp [Value.cells] at hcs
    obtain ⟨rfl, rfl, rfl⟩ := hcs
    exact ⟨_, _, _, fun _ => false, ⟨⟨fun h0 => absurd h0 (by omega)⟩, by omega, by unfold maxLen; omega⟩, rfl⟩
  · simp [Value.cells] at hcs
    obtain ⟨rfl, rfl, rfl⟩ := hcs
    refine ⟨_, _, _, B, ⟨⟨fun h0 => ?_⟩, hl, hm⟩, rfl⟩
    have hs := spot_none (hcell 0 (by omega))
    have hs' : x.spot = none := by
      unfold Addr.add at hs
      simpa using hs
    obtain ⟨b, off, sp⟩ := x
    simp only at hs'
    subst hs'
    refine ⟨b, off, rfl, World.block_lt_of_cell? W ⟨b, off, none⟩ (hcell 0 (by omega)), fun i hi => ?_⟩
    have := hcell i (by omega)
    rw [add_plain] at this
    exact this
end
/-- A list of entries within the block g. -/
structure EntL (w : World) (g : Nat) (v : Value) (l : List En) : Prop where
  mk ::
  lt : g < w.heap.size
  at_ : ∃ p c, v = .slice p l.length c ∧ l.length ≤ c ∧ (0 < l.length → ∃ off, p = some ⟨g, off, none⟩ ∧ ∀ i, i < l.length → w.cell? ⟨g, off + i * 4, none⟩ = some (.int .i64 (nth l i).b) ∧ w.cell? ⟨g, off + i * 4 + 1, none⟩ = some (.int .i64 (nth l i).d) ∧ w.cell? ⟨g, off + i * 4 + 2, none⟩ = some (.int .i64 (nth l i).s) ∧ w.cell? ⟨g, off + i * 4 + 3, none⟩ = some (.int .i64 (nth l i).i))
theorem EntL.kept {w w' : World} {g : Nat} {v : Value} {l : List En} (h : EntL w g v l) (hs : w.heap.size ≤ w'.heap.size) (e : w'.heap[g]? = w.heap[g]?) : EntL w' g v l := by
  obtain ⟨p, c, h1, h2, h3⟩ := h.at_
  refine ⟨Nat.lt_of_lt_of_le h.lt hs, p, c, h1, h2, fun h0 => ?_⟩
  obtain ⟨off, q1, q3⟩ := h3 h0
  have k : ∀ o, w'.cell? ⟨g, o, none⟩ = w.cell? ⟨g, o, none⟩ := fun o => World.cell?_of_block (by exact e)
  refine ⟨off, q1, fun i hi => ?_⟩
  rw [k, k, k, k]
  exact q3 i hi
theorem EntL.next {w w' : World} {g : Nat} {v : Value} {l : List En} (h : EntL w g v l) (hb : Below w.heap.size w w') : EntL w' g v l :=
  h.kept hb.size (hb.block g h.lt)
theorem EntL.off {w w' : World} {g hb : Nat} {v u : Value} {l : List En} (h : EntL w g v l) (ho : Off w hb u w') (h1 : g ≠ hb) (h2 : u.ownBlock ≠ some g) : EntL w' g v l :=
  h.kept ho.size (ho.block g h.lt h1 h2)
theorem EntL.start {w : World} {g : Nat} {l : List En} (h : ListAt w g l) (c : Nat) (hc : l.length ≤ c) : EntL w g (.slice (some ⟨g, 0, none⟩) l.length c) l := by
  refine ⟨h.1, _, c, rfl, hc, fun _ => ⟨0, rfl, fun i hi => ?_⟩⟩
  rw [Nat.zero_add]
  exact h.nth hi
/-- A heap, and the document's list of the same entries. -/
structure Play (w : World) (hb k : Nat) (m : Value) (wr : World) : Prop where
  mk ::
  at_ : ∃ v l, HeapAt wr w.heap.size hb v l ∧ Right l ∧ l.length ≤ 40 + k ∧ DocL wr m (srt l)
  be : Below w.heap.size w wr
theorem Play.next {w wr w' : World} {hb k : Nat} {m : Value} (h : Play w hb k m wr) (b : Below wr.heap.size wr w') : Play w hb k m w' := by
  obtain ⟨v, l, h1, h2, h3, h4⟩ := h.at_
  exact ⟨⟨v, l, h1.next b, h2, h3, h4.next b⟩, h.be.trans (b.mono h.be.size)⟩
end Go.Proofs.Ytccjahlpakiadaa.I
