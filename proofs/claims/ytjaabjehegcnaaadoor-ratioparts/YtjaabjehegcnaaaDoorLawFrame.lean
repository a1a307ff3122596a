/-
  What the frames of the laws' proofs share: arguments are opened (numbers of 64 bits, pairs of them, slices of them).
-/
import Derived.Test.YtjaabjehegcnaaaDoorRows
import Derived.Test.YtjaabjehegcnaaaDoorNumMath
import Derived.ProofKit
import Derived.OpenShut
import Derived.ShutString
import Derived.ChangeOld
import Derived.Below
namespace Go.Proofs.YtjaabjehegcnaaaDoor
set_option maxRecDepth 100000
open Go.ChangeShapes Go.WideShapes Go.ChangeAt Go.RowKit

theorem own : ownKnob Tryd.prog.godebug = none := by kernel_rfl
theorem laidOut : laidOutB Tryd.prog = true := by kernel_rfl
theorem cells_num : Tryd.prog.cellsOf 2 = 1 := by kernel_rfl
theorem cells_pair : Tryd.prog.cellsOf 31 = 2 := by kernel_rfl

section
variable {H : Type} {enc : TypeId × Value → H} {W : World} {b0 base : Nat} {spare : Nat → Bool} {held : Bool} {r : Reach} {v : Value} {d : DataW H} {p : List MemPlace}

theorem open_num (hv : Value.okWide Tryd.prog W r b0 2 v) (h : DataW.Trod enc Tryd.prog W base spare held 2 v d p) : ∃ a : Int, I64 a ∧ v = .int .i64 a := by
  obtain ⟨a, rfl, rfl, rfl, w⟩ := open_int Tryd.underlying2 hv h
  exact ⟨a, bounds_i64 w, rfl⟩

theorem open_pair (hv : Value.okWide Tryd.prog W r b0 31 v) (h : DataW.Trod enc Tryd.prog W base spare held 31 v d p) : ∃ a b : Int, I64 a ∧ I64 b ∧ v = .agg #[.int .i64 a, .int .i64 b] := by
  obtain ⟨cs, rfl, hsz, _⟩ : ∃ cs, v = .agg cs ∧ cs.size = Tryd.prog.cellsOf 31 ∧ Row.okWide Tryd.prog W r b0 31 cs := by
    simpa [Value.okWide, Tryd.underlying31] using hv
  rw [cells_pair] at hsz
  obtain ⟨l⟩ := cs
  obtain ⟨fuel, hf⟩ := h
  obtain ⟨xs, m, _, _, _, hn, hx⟩ := DataW.trod_array Tryd.underlying31 hf
  match l, hsz with
  | [c0, c1], _ =>
    have h0 := hx 0 (by omega)
    have h1 := hx 1 (by omega)
    rw [cells_num] at h0 h1
    simp [Value.cells] at h0 h1
    match xs, hn with
    | [y0, y1], _ =>
      simp at h0 h1
      obtain ⟨a, e0, _, w0⟩ := DataW.trod_int Tryd.underlying2 h0
      obtain ⟨b, e1, _, w1⟩ := DataW.trod_int Tryd.underlying2 h1
      simp at e0 e1
      subst e0 e1
      exact ⟨a, b, bounds_i64 w0, bounds_i64 w1, rfl⟩

end
end Go.Proofs.YtjaabjehegcnaaaDoor
