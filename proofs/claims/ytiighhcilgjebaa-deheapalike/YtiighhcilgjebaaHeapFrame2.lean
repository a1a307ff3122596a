/-
  A slice of entries that came in (layer 5).
-/
import Derived.Test.YtiighhcilgjebaaHeapFrame
import Derived.Deep.Slices
namespace Go.Proofs.Ytiighhcilgjebaa
set_option maxRecDepth 100000
open Go.Joins Go.ChangeShapes Go.WideShapes Go.ChangeAt Go.RowKit Go.Deep

theorem spot_none {w : World} {a : Addr} {v : Value} (h : w.cell? a = some v) : a.spot = none := by
  unfold World.cell? at h
  split at h
  · split at h
    · cases h
    · rename_i hs; simpa using hs
  · cases h
theorem add_plain (b off n : Nat) : (⟨b, off, none⟩ : Addr).add n = ⟨b, off + n, none⟩ := by unfold Addr.add; split <;> simp_all

/-- The entries of a slice that came in: the first len of them. -/
structure Ents (w : World) (p : Option Addr) (len : Nat) (z : Nat → En) : Prop where
  mk ::
  at_ : 0 < len → ∃ b off, p = some ⟨b, off, none⟩ ∧ b < w.heap.size ∧ ∀ i, i < len → w.cell? ⟨b, off + i * 4, none⟩ = some (.int .i64 (z i).b) ∧ w.cell? ⟨b, off + i * 4 + 1, none⟩ = some (.int .i64 (z i).d) ∧ w.cell? ⟨b, off + i * 4 + 2, none⟩ = some (.int .i64 (z i).s) ∧ w.cell? ⟨b, off + i * 4 + 3, none⟩ = some (.int .i64 (z i).i)
theorem Ents.below {w w' : World} {p : Option Addr} {len : Nat} {z : Nat → En} (h : Ents w p len z) (hb : Below w.heap.size w w') : Ents w' p len z := by
  refine ⟨fun h0 => ?_⟩
  obtain ⟨b, off, h1, h2, h3⟩ := h.at_ h0
  refine ⟨b, off, h1, Nat.lt_of_lt_of_le h2 hb.size, fun i hi => ?_⟩
  rw [hb.cell (by exact h2), hb.cell (by exact h2), hb.cell (by exact h2), hb.cell (by exact h2)]
  exact h3 i hi
theorem Ents.less {w : World} {p : Option Addr} {len L : Nat} {z : Nat → En} (h : Ents w p len z) (hL : L ≤ len) : Ents w p L z := by
  refine ⟨fun h0 => ?_⟩
  obtain ⟨b, off, h1, h2, h3⟩ := h.at_ (by omega)
  exact ⟨b, off, h1, h2, fun i hi => h3 i (by omega)⟩

section
variable {H : Type} {enc : TypeId × Value → H} {W : World} {b0 base : Nat} {held : Bool} {r : Reach} {v : Value} {d : DataW H} {p : List MemPlace}
def IsEnts (w : World) (a : Option Addr) (len cap : Nat) (z : Nat → En) : Prop := Ents w a len z ∧ len ≤ cap ∧ cap ≤ maxLen

theorem open_ents (hv : Value.okWide Try.prog W r b0 22 v) (h : DataW.Trod enc Try.prog W base (fun _ => true) held 22 v d p) : ∃ (a : Option Addr) (len cap : Nat) (z : Nat → En), IsEnts W a len cap z ∧ v = .slice a len cap := by
  obtain ⟨a0, len0, cap0, rfl⟩ := okWide_slice Try.underlying22 hv
  obtain ⟨fuel, hf⟩ := h
  rcases open_slice Try.underlying22 hf with ⟨hcs, _⟩ | ⟨a, len, cap, m, n, D, Pl, hcs, hb, hl, hm, hmm, hx, hi⟩
  · simp [Value.cells] at hcs
    obtain ⟨rfl, rfl, rfl⟩ := hcs
    exact ⟨_, _, _, fun _ => default, ⟨⟨fun h0 => absurd h0 (by omega)⟩, by omega, by unfold maxLen; omega⟩, rfl⟩
  · simp [Value.cells] at hcs
    obtain ⟨rfl, rfl, rfl⟩ := hcs
    have key : ∀ i, ∃ x : En, i < len0 → W.cell? ((a.add (i * 4)).add 0) = some (.int .i64 x.b) ∧ W.cell? ((a.add (i * 4)).add 1) = some (.int .i64 x.d) ∧ W.cell? ((a.add (i * 4)).add 2) = some (.int .i64 x.s) ∧ W.cell? ((a.add (i * 4)).add 3) = some (.int .i64 x.i) := by
      intro i
      by_cases hil : i < len0
      · obtain ⟨cs', hc, ht⟩ := hi i (by rw [hmm]; simp; omega)
        rw [cells_ent] at hc
        obtain ⟨_, hcl, hat⟩ := World.cells?_some hc
        obtain ⟨xs, n', _, _, _, hxl, hfs⟩ := DataW.trod_struct Try.underlying28 ht
        match cs', hcl with
        | [v0, v1, v2, v3], _ =>
          have g0 := hfs 0 _ rfl
          have g1 := hfs 1 _ rfl
          have g2 := hfs 2 _ rfl
          have g3 := hfs 3 _ rfl
          have k0 : ∃ y, xs[0]? = some y := ⟨_, List.getElem?_eq_getElem (by rw [hxl]; decide)⟩
          have k1 : ∃ y, xs[1]? = some y := ⟨_, List.getElem?_eq_getElem (by rw [hxl]; decide)⟩
          have k2 : ∃ y, xs[2]? = some y := ⟨_, List.getElem?_eq_getElem (by rw [hxl]; decide)⟩
          have k3 : ∃ y, xs[3]? = some y := ⟨_, List.getElem?_eq_getElem (by rw [hxl]; decide)⟩
          obtain ⟨y0, k0⟩ := k0
          obtain ⟨y1, k1⟩ := k1
          obtain ⟨y2, k2⟩ := k2
          obtain ⟨y3, k3⟩ := k3
          rw [k0] at g0
          rw [k1] at g1
          rw [k2] at g2
          rw [k3] at g3
          have c64 : Try.prog.cellsOf 2 = 1 := by kernel_rfl
          have cI : Try.prog.cellsOf 3 = 1 := by kernel_rfl
          replace g0 : DataW.trod enc Try.prog W base (fun _ => true) held n' 2 (([v0, v1, v2, v3].drop 0).take (Try.prog.cellsOf 2)) = some y0 := g0
          rw [c64] at g0
          replace g1 : DataW.trod enc Try.prog W base (fun _ => true) held n' 3 (([v0, v1, v2, v3].drop 1).take (Try.prog.cellsOf 3)) = some y1 := g1
          rw [cI] at g1
          replace g2 : DataW.trod enc Try.prog W base (fun _ => true) held n' 2 (([v0, v1, v2, v3].drop 2).take (Try.prog.cellsOf 2)) = some y2 := g2
          rw [c64] at g2
          replace g3 : DataW.trod enc Try.prog W base (fun _ => true) held n' 3 (([v0, v1, v2, v3].drop 3).take (Try.prog.cellsOf 3)) = some y3 := g3
          rw [cI] at g3
          obtain ⟨z0, e0, _, _⟩ := DataW.trod_int Try.underlying2 g0
          obtain ⟨z1, e1, _, _⟩ := DataW.trod_int Try.underlying3 g1
          obtain ⟨z2, e2, _, _⟩ := DataW.trod_int Try.underlying2 g2
          obtain ⟨z3, e3, _, _⟩ := DataW.trod_int Try.underlying3 g3
          simp at e0 e1 e2 e3
          subst e0 e1 e2 e3
          exact ⟨⟨z0, z1, z2, z3⟩, fun _ => ⟨hat 0 (by omega), hat 1 (by omega), hat 2 (by omega), hat 3 (by omega)⟩⟩
      · exact ⟨default, fun h => absurd h hil⟩
    obtain ⟨z, hz⟩ := Classical.skolem.1 key
    refine ⟨_, _, _, z, ⟨⟨fun h0 => ?_⟩, hl, hm⟩, rfl⟩
    have hs := spot_none (hz 0 h0).1
    have hs' : a.spot = none := by
      rw [Nat.zero_mul] at hs
      unfold Addr.add at hs
      simpa using hs
    obtain ⟨b, off, sp⟩ := a
    simp only at hs'
    subst hs'
    refine ⟨b, off, rfl, World.block_lt_of_cell? W ⟨b, off, none⟩ (hz 0 h0).1, fun i hi => ?_⟩
    have := hz i hi
    rw [add_plain, add_plain, add_plain, add_plain, add_plain] at this
    exact this
end
end Go.Proofs.Ytiighhcilgjebaa
