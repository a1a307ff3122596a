/-
  Pairs of numbers of 32 and of 16 bits that came in.
-/
import Derived.Test.YtjaabjehegcnaaaDoorLawFrame
import Derived.Test.YtjaabjehegcnaaaDoorBackMath
namespace Go.Proofs.YtjaabjehegcnaaaDoor
set_option maxRecDepth 100000
open Go.ChangeShapes Go.WideShapes Go.ChangeAt Go.RowKit

section
variable {H : Type} {enc : TypeId × Value → H} {W : World} {b0 base : Nat} {spare : Nat → Bool} {held : Bool} {r : Reach} {v : Value} {d : DataW H} {p : List MemPlace}

theorem cells_i32 : Tryd.prog.cellsOf 21 = 1 := by kernel_rfl
theorem cells_pair32 : Tryd.prog.cellsOf 49 = 2 := by kernel_rfl
theorem open_pair32 (hv : Value.okWide Tryd.prog W r b0 49 v) (h : DataW.Trod enc Tryd.prog W base spare held 49 v d p) : ∃ a b : Int, I32 a ∧ I32 b ∧ v = .agg #[.int .i32 a, .int .i32 b] := by
  obtain ⟨cs, rfl, hsz, _⟩ : ∃ cs, v = .agg cs ∧ cs.size = Tryd.prog.cellsOf 49 ∧ Row.okWide Tryd.prog W r b0 49 cs := by
    simpa [Value.okWide, Tryd.underlying49] using hv
  rw [cells_pair32] at hsz
  obtain ⟨l⟩ := cs
  obtain ⟨fuel, hf⟩ := h
  obtain ⟨xs, m, _, _, _, hn, hx⟩ := DataW.trod_array Tryd.underlying49 hf
  match l, hsz with
  | [c0, c1], _ =>
    have h0 := hx 0 (by omega)
    have h1 := hx 1 (by omega)
    rw [cells_i32] at h0 h1
    simp [Value.cells] at h0 h1
    match xs, hn with
    | [y0, y1], _ =>
      simp at h0 h1
      obtain ⟨a, e0, _, w0⟩ := DataW.trod_int Tryd.underlying21 h0
      obtain ⟨b, e1, _, w1⟩ := DataW.trod_int Tryd.underlying21 h1
      simp at e0 e1
      subst e0 e1
      refine ⟨a, b, ?_, ?_, rfl⟩
      · simp [Lit.wf, show IntKind.i32.min = -2147483648 from rfl, show IntKind.i32.max = 2147483647 from rfl] at w0
        unfold I32; omega
      · simp [Lit.wf, show IntKind.i32.min = -2147483648 from rfl, show IntKind.i32.max = 2147483647 from rfl] at w1
        unfold I32; omega
def I16 (a : Int) : Prop := -32768 ≤ a ∧ a ≤ 32767
theorem cells_i16 : Tryd.prog.cellsOf 51 = 1 := by kernel_rfl
theorem cells_pair16 : Tryd.prog.cellsOf 52 = 2 := by kernel_rfl
theorem open_pair16 (hv : Value.okWide Tryd.prog W r b0 52 v) (h : DataW.Trod enc Tryd.prog W base spare held 52 v d p) : ∃ a b : Int, I16 a ∧ I16 b ∧ v = .agg #[.int .i16 a, .int .i16 b] := by
  obtain ⟨cs, rfl, hsz, _⟩ : ∃ cs, v = .agg cs ∧ cs.size = Tryd.prog.cellsOf 52 ∧ Row.okWide Tryd.prog W r b0 52 cs := by
    simpa [Value.okWide, Tryd.underlying52] using hv
  rw [cells_pair16] at hsz
  obtain ⟨l⟩ := cs
  obtain ⟨fuel, hf⟩ := h
  obtain ⟨xs, m, _, _, _, hn, hx⟩ := DataW.trod_array Tryd.underlying52 hf
  match l, hsz with
  | [c0, c1], _ =>
    have h0 := hx 0 (by omega)
    have h1 := hx 1 (by omega)
    rw [cells_i16] at h0 h1
    simp [Value.cells] at h0 h1
    match xs, hn with
    | [y0, y1], _ =>
      simp at h0 h1
      obtain ⟨a, e0, _, w0⟩ := DataW.trod_int Tryd.underlying51 h0
      obtain ⟨b, e1, _, w1⟩ := DataW.trod_int Tryd.underlying51 h1
      simp at e0 e1
      subst e0 e1
      refine ⟨a, b, ?_, ?_, rfl⟩
      · simp [Lit.wf, show IntKind.i16.min = -32768 from rfl, show IntKind.i16.max = 32767 from rfl] at w0
        unfold I16; omega
      · simp [Lit.wf, show IntKind.i16.min = -32768 from rfl, show IntKind.i16.max = 32767 from rfl] at w1
        unfold I16; omega
end
end Go.Proofs.YtjaabjehegcnaaaDoor
