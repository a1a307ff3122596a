/-
  What the frames of the laws' proofs share: arguments are opened (numbers of 64 bits, pairs of them, slices of them).
-/
import Derived.Test.YtbkfmkbjfifgjaaRows
import Derived.Test.YtbkfmkbjfifgjaaNumMath
import Derived.ProofKit
import Derived.OpenShut
import Derived.ShutString
import Derived.ChangeOld
import Derived.Below
namespace Go.Proofs.Ytbkfmkbjfifgjaa
open Go.ChangeShapes Go.WideShapes Go.ChangeAt Go.RowKit

theorem own : ownKnob Try.prog.godebug = none := by kernel_rfl
theorem laidOut : laidOutB Try.prog = true := by kernel_rfl
theorem cells_num : Try.prog.cellsOf 2 = 1 := by kernel_rfl
theorem cells_pair : Try.prog.cellsOf 39 = 2 := by kernel_rfl

section
variable {H : Type} {enc : TypeId × Value → H} {W : World} {b0 base : Nat} {spare : Nat → Bool} {held : Bool} {r : Reach} {v : Value} {d : DataW H} {p : List MemPlace}

theorem open_num (hv : Value.okWide Try.prog W r b0 2 v) (h : DataW.Trod enc Try.prog W base spare held 2 v d p) : ∃ a : Int, I64 a ∧ v = .int .i64 a := by
  obtain ⟨a, rfl, rfl, rfl, w⟩ := open_int Try.underlying2 hv h
  exact ⟨a, bounds_i64 w, rfl⟩

theorem open_pair (hv : Value.okWide Try.prog W r b0 39 v) (h : DataW.Trod enc Try.prog W base spare held 39 v d p) : ∃ a b : Int, I64 a ∧ I64 b ∧ v = .agg #[.int .i64 a, .int .i64 b] := by
  obtain ⟨cs, rfl, hsz, _⟩ : ∃ cs, v = .agg cs ∧ cs.size = Try.prog.cellsOf 39 ∧ Row.okWide Try.prog W r b0 39 cs := by
    simpa [Value.okWide, Try.underlying39] using hv
  rw [cells_pair] at hsz
  obtain ⟨l⟩ := cs
  obtain ⟨fuel, hf⟩ := h
  obtain ⟨xs, m, _, _, _, hn, hx⟩ := DataW.trod_array Try.underlying39 hf
  match l, hsz with
  | [c0, c1], _ =>
    have h0 := hx 0 (by omega)
    have h1 := hx 1 (by omega)
    rw [cells_num] at h0 h1
    simp [Value.cells] at h0 h1
    match xs, hn with
    | [y0, y1], _ =>
      simp at h0 h1
      obtain ⟨a, e0, _, w0⟩ := DataW.trod_int Try.underlying2 h0
      obtain ⟨b, e1, _, w1⟩ := DataW.trod_int Try.underlying2 h1
      simp at e0 e1
      subst e0 e1
      exact ⟨a, b, bounds_i64 w0, bounds_i64 w1, rfl⟩

/-- A slice of integers that came in: nil, or a row of 'cap' cells, the first 'len' of which are its elements. -/
def IsRow (w : World) (a : Option Addr) (len cap : Nat) (zs : List Int) : Prop :=
  (a = none ∧ len = 0 ∧ cap = 0 ∧ zs = []) ∨
  ∃ x, a = some x ∧ len ≤ cap ∧ cap ≤ maxLen ∧ zs.length = cap ∧ (∀ i, i < zs.length → w.cell? (x.add i) = some (.int .i64 (zs.getD i 0))) ∧ ∀ n ∈ zs, I64 n

theorem open_row (hv : Value.okWide Try.prog W r b0 34 v) (h : DataW.Trod enc Try.prog W base (fun _ => true) held 34 v d p) : ∃ (a : Option Addr) (len cap : Nat) (zs : List Int), IsRow W a len cap zs ∧ v = .slice a len cap := by
  obtain ⟨a0, len0, cap0, rfl⟩ := okWide_slice Try.underlying34 hv
  obtain ⟨fuel, hf⟩ := h
  rcases open_ints Try.underlying34 Try.underlying2 cells_num hf with ⟨hcs, _⟩ | ⟨x, l, c, zs, hcs, _, hl, hm, hz, _, hcell, hwz⟩
  · simp [Value.cells] at hcs
    obtain ⟨rfl, rfl, rfl⟩ := hcs
    exact ⟨_, _, _, [], .inl ⟨rfl, rfl, rfl, rfl⟩, rfl⟩
  · simp [Value.cells] at hcs
    obtain ⟨rfl, rfl, rfl⟩ := hcs
    exact ⟨_, _, _, zs, .inr ⟨_, rfl, hl, hm, by simpa using hz, hcell, fun n hn => bounds_i64 (hwz n hn)⟩, rfl⟩
end
end Go.Proofs.Ytbkfmkbjfifgjaa
