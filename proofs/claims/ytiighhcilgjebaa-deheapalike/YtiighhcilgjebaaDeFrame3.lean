/-
  A slice of acts that came in (layer 7): each is what is done, an entry, and a number.
-/
import Derived.Test.YtiighhcilgjebaaHeapFrame2
namespace Go.Proofs.Ytiighhcilgjebaa
set_option maxRecDepth 100000
open Go.Joins Go.ChangeShapes Go.WideShapes Go.ChangeAt Go.RowKit Go.Deep

theorem cells_act : Try.prog.cellsOf 43 = 6 := by kernel_rfl
/-- The acts of a slice that came in: the first len of them. -/
structure Acts (w : World) (p : Option Addr) (len : Nat) (d : Nat → Int) (z : Nat → En) (nn : Nat → Int) : Prop where
  mk ::
  at_ : 0 < len → ∃ b off, p = some ⟨b, off, none⟩ ∧ b < w.heap.size ∧ ∀ i, i < len → w.cell? ⟨b, off + i * 6, none⟩ = some (.int .i64 (d i)) ∧ w.cell? ⟨b, off + i * 6 + 1, none⟩ = some (.int .i64 (z i).b) ∧ w.cell? ⟨b, off + i * 6 + 2, none⟩ = some (.int .i64 (z i).d) ∧ w.cell? ⟨b, off + i * 6 + 3, none⟩ = some (.int .i64 (z i).s) ∧ w.cell? ⟨b, off + i * 6 + 4, none⟩ = some (.int .i64 (z i).i) ∧ w.cell? ⟨b, off + i * 6 + 5, none⟩ = some (.int .i64 (nn i))
theorem Acts.below {w w' : World} {p : Option Addr} {len : Nat} {d : Nat → Int} {z : Nat → En} {nn : Nat → Int} (h : Acts w p len d z nn) (hb : Below w.heap.size w w') : Acts w' p len d z nn := by
  refine ⟨fun h0 => ?_⟩
  obtain ⟨b, off, h1, h2, h3⟩ := h.at_ h0
  refine ⟨b, off, h1, Nat.lt_of_lt_of_le h2 hb.size, fun i hi => ?_⟩
  rw [hb.cell (by exact h2), hb.cell (by exact h2), hb.cell (by exact h2), hb.cell (by exact h2), hb.cell (by exact h2), hb.cell (by exact h2)]
  exact h3 i hi
theorem Acts.less {w : World} {p : Option Addr} {len L : Nat} {d : Nat → Int} {z : Nat → En} {nn : Nat → Int} (h : Acts w p len d z nn) (hL : L ≤ len) : Acts w p L d z nn := by
  refine ⟨fun h0 => ?_⟩
  obtain ⟨b, off, h1, h2, h3⟩ := h.at_ (by omega)
  exact ⟨b, off, h1, h2, fun i hi => h3 i (by omega)⟩
/-- An act's two parts. -/
def IsActs (w : World) (a : Option Addr) (len cap : Nat) (z : Nat → Int × En × Int) : Prop := Acts w a len (fun i => (z i).1) (fun i => (z i).2.1) (fun i => (z i).2.2) ∧ len ≤ cap ∧ cap ≤ maxLen

section
variable {H : Type} {enc : TypeId × Value → H} {W : World} {b0 base : Nat} {held : Bool} {r : Reach} {v : Value} {d : DataW H} {p : List MemPlace}
theorem open_acts (hv : Value.okWide Try.prog W r b0 23 v) (h : DataW.Trod enc Try.prog W base (fun _ => true) held 23 v d p) : ∃ (a : Option Addr) (len cap : Nat) (z : Nat → Int × En × Int), IsActs W a len cap z ∧ v = .slice a len cap := by
  obtain ⟨a0, len0, cap0, rfl⟩ := okWide_slice Try.underlying23 hv
  obtain ⟨fuel, hf⟩ := h
  rcases open_slice Try.underlying23 hf with ⟨hcs, _⟩ | ⟨a, len, cap, m, n, D, Pl, hcs, hb, hl, hm, hmm, hx, hi⟩
  · simp [Value.cells] at hcs
    obtain ⟨rfl, rfl, rfl⟩ := hcs
    exact ⟨_, _, _, fun _ => default, ⟨⟨fun h0 => absurd h0 (by omega)⟩, by omega, by unfold maxLen; omega⟩, rfl⟩
  · simp [Value.cells] at hcs
    obtain ⟨rfl, rfl, rfl⟩ := hcs
    have key : ∀ i, ∃ y : Int × En × Int, i < len0 → W.cell? ((a.add (i * 6)).add 0) = some (.int .i64 y.1) ∧ W.cell? ((a.add (i * 6)).add 1) = some (.int .i64 y.2.1.b) ∧ W.cell? ((a.add (i * 6)).add 2) = some (.int .i64 y.2.1.d) ∧ W.cell? ((a.add (i * 6)).add 3) = some (.int .i64 y.2.1.s) ∧ W.cell? ((a.add (i * 6)).add 4) = some (.int .i64 y.2.1.i) ∧ W.cell? ((a.add (i * 6)).add 5) = some (.int .i64 y.2.2) := by
      intro i
      by_cases hil : i < len0
      · obtain ⟨cs', hc, ht⟩ := hi i (by rw [hmm]; simp; omega)
        rw [cells_act] at hc
        obtain ⟨_, hcl, hat⟩ := World.cells?_some hc
        obtain ⟨xs, n', _, _, _, hxl, hfs⟩ := DataW.trod_struct Try.underlying43 ht
        match cs', hcl with
        | [u0, v0, v1, v2, v3, u5], _ =>
          have f0 := hfs 0 _ rfl
          have f1 := hfs 1 _ rfl
          have j0 : ∃ y, xs[0]? = some y := ⟨_, List.getElem?_eq_getElem (by rw [hxl]; decide)⟩
          have j1 : ∃ y, xs[1]? = some y := ⟨_, List.getElem?_eq_getElem (by rw [hxl]; decide)⟩
          have f2 := hfs 2 _ rfl
          have j2 : ∃ y, xs[2]? = some y := ⟨_, List.getElem?_eq_getElem (by rw [hxl]; decide)⟩
          obtain ⟨x2, j2⟩ := j2
          rw [j2] at f2
          obtain ⟨x0, j0⟩ := j0
          obtain ⟨x1, j1⟩ := j1
          rw [j0] at f0
          rw [j1] at f1
          have c64 : Try.prog.cellsOf 2 = 1 := by kernel_rfl
          have cI : Try.prog.cellsOf 3 = 1 := by kernel_rfl
          replace f0 : DataW.trod enc Try.prog W base (fun _ => true) held n' 3 (([u0, v0, v1, v2, v3, u5].drop 0).take (Try.prog.cellsOf 3)) = some x0 := f0
          rw [cI] at f0
          replace f2 : DataW.trod enc Try.prog W base (fun _ => true) held n' 3 (([u0, v0, v1, v2, v3, u5].drop 5).take (Try.prog.cellsOf 3)) = some x2 := f2
          rw [cI] at f2
          replace f1 : DataW.trod enc Try.prog W base (fun _ => true) held n' 28 (([u0, v0, v1, v2, v3, u5].drop 1).take (Try.prog.cellsOf 28)) = some x1 := f1
          rw [cells_ent] at f1
          replace f1 : DataW.trod enc Try.prog W base (fun _ => true) held n' 28 [v0, v1, v2, v3] = some x1 := f1
          obtain ⟨ys, n'', _, _, _, hyl, hgs⟩ := DataW.trod_struct Try.underlying28 f1
          have g0 := hgs 0 _ rfl
          have g1 := hgs 1 _ rfl
          have g2 := hgs 2 _ rfl
          have g3 := hgs 3 _ rfl
          have k0 : ∃ y, ys[0]? = some y := ⟨_, List.getElem?_eq_getElem (by rw [hyl]; decide)⟩
          have k1 : ∃ y, ys[1]? = some y := ⟨_, List.getElem?_eq_getElem (by rw [hyl]; decide)⟩
          have k2 : ∃ y, ys[2]? = some y := ⟨_, List.getElem?_eq_getElem (by rw [hyl]; decide)⟩
          have k3 : ∃ y, ys[3]? = some y := ⟨_, List.getElem?_eq_getElem (by rw [hyl]; decide)⟩
          obtain ⟨y0, k0⟩ := k0
          obtain ⟨y1, k1⟩ := k1
          obtain ⟨y2, k2⟩ := k2
          obtain ⟨y3, k3⟩ := k3
          rw [k0] at g0
          rw [k1] at g1
          rw [k2] at g2
          rw [k3] at g3
          replace g0 : DataW.trod enc Try.prog W base (fun _ => true) held n'' 2 (([v0, v1, v2, v3].drop 0).take (Try.prog.cellsOf 2)) = some y0 := g0
          rw [c64] at g0
          replace g1 : DataW.trod enc Try.prog W base (fun _ => true) held n'' 3 (([v0, v1, v2, v3].drop 1).take (Try.prog.cellsOf 3)) = some y1 := g1
          rw [cI] at g1
          replace g2 : DataW.trod enc Try.prog W base (fun _ => true) held n'' 2 (([v0, v1, v2, v3].drop 2).take (Try.prog.cellsOf 2)) = some y2 := g2
          rw [c64] at g2
          replace g3 : DataW.trod enc Try.prog W base (fun _ => true) held n'' 3 (([v0, v1, v2, v3].drop 3).take (Try.prog.cellsOf 3)) = some y3 := g3
          rw [cI] at g3
          obtain ⟨zd, ed, _, _⟩ := DataW.trod_int Try.underlying3 f0
          obtain ⟨zn, en, _, _⟩ := DataW.trod_int Try.underlying3 f2
          obtain ⟨z0, e0, _, _⟩ := DataW.trod_int Try.underlying2 g0
          obtain ⟨z1, e1, _, _⟩ := DataW.trod_int Try.underlying3 g1
          obtain ⟨z2, e2, _, _⟩ := DataW.trod_int Try.underlying2 g2
          obtain ⟨z3, e3, _, _⟩ := DataW.trod_int Try.underlying3 g3
          simp at ed en e0 e1 e2 e3
          subst ed en e0 e1 e2 e3
          exact ⟨(zd, ⟨z0, z1, z2, z3⟩, zn), fun _ => ⟨hat 0 (by omega), hat 1 (by omega), hat 2 (by omega), hat 3 (by omega), hat 4 (by omega), hat 5 (by omega)⟩⟩
      · exact ⟨default, fun h => absurd h hil⟩
    obtain ⟨z, hz⟩ := Classical.skolem.1 key
    refine ⟨_, _, _, z, ⟨⟨fun h0 => ?_⟩, hl, hm⟩, rfl⟩
    have hs := spot_none (hz 0 h0).1
    have hs' : a.spot = none := by
      rw [Nat.zero_mul] at hs
      unfold Addr.add at hs
      simpa using hs
    obtain ⟨b, off, sp⟩ := a
    simp only at hs'
    subst hs'
    refine ⟨b, off, rfl, World.block_lt_of_cell? W ⟨b, off, none⟩ (hz 0 h0).1, fun i hi => ?_⟩
    have := hz i hi
    rw [add_plain, add_plain, add_plain, add_plain, add_plain, add_plain, add_plain] at this
    exact this
end
end Go.Proofs.Ytiighhcilgjebaa
