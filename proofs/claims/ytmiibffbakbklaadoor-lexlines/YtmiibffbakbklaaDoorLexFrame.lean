/-
  What the frames of the laws' proofs of layer 8 share: what the listed variables of Go's library give a walk; the witness's world.
-/
import Derived.Test.YtmiibffbakbklaaDoorLexWake
import Derived.Test.YtmiibffbakbklaaDoorTie
import Derived.Test.YtmiibffbakbklaaDoorCards
import Derived.ProofKit
import Derived.OpenShut
import Derived.ShutString
import Derived.ChangeOld
import Derived.Below
import Derived.LaidMore
import Derived.MakeChecks
import Derived.Stop.LaidErr
import Derived.SizedLaws
import Derived.Stop.Joined
import Derived.HandedShaped
import Derived.Lay
import Derived.PinnedBridge
import Derived.Lib.LaidU8
namespace Go.Proofs.YtmiibffbakbklaaDoor
set_option maxRecDepth 100000
open Go.ChangeShapes Go.WideShapes Go.ChangeAt Go.RowKit

theorem own : ownKnob Tryd.prog.godebug = none := by kernel_rfl
theorem laidOut : laidOutB Tryd.prog = true := by kernel_rfl

/-- The listed variables, as every row of this seat lists them. -/
def laidL : List (String × DataW Unit) := Rows.lexReadsRow.laid
theorem gRng : Tryd.prog.globalNamed "strconv.ErrRange" = some 4 := by kernel_rfl
theorem tRng : (Tryd.prog.globals[4]?).map (·.type) = some 62 := by kernel_rfl
theorem cellsEs : Tryd.prog.cellsOf 117 = 1 := by kernel_rfl
theorem cellsStr : Tryd.prog.cellsOf 9 = 1 := by kernel_rfl
theorem star : "*" ++ "errors.errorString" = "*errors.errorString" := by decide
theorem rowEs (u : TypeId) (h : Tryd.prog.typeName? 3 u = some "*errors.errorString") : u = 115 :=
  typeName_ptr_named (nm := "errors.errorString") (by rw [star]; kernel_rfl) (by kernel_rfl) (by decide) u (by rw [star]; exact h)

/-- What the condition gives the walks. -/
theorem libOk_of_laid {W : World} (h : laidMetH Tryd.prog laidL W) : LibOk W := by
  rw [MakeChecks.laidMetH_plain _ _ _ (by kernel_rfl)] at h
  have h3 := h.tail.tail.tail.tail
  obtain ⟨a, s, hv, _⟩ := laid_sentinel h3 gRng tRng Tryd.underlying62 rowEs Tryd.underlying115 Tryd.underlying117 rfl rfl Tryd.underlying9 cellsEs cellsStr
  exact ⟨_, _, hv⟩
theorem u8x : U8Extra Tryd.prog Tryd.lays197_ren := ⟨by kernel_rfl, by kernel_rfl, by kernel_rfl, by kernel_rfl, by kernel_rfl, by kernel_rfl, by kernel_rfl⟩
theorem accept_datum : (Rows.laid_unicode_utf8_acceptRanges : DataW Unit) = Lib.acceptData := by kernel_rfl
theorem first_datum : Rows.laid_unicode_utf8_first = Lib.firstData := Pinned.utf8First_eq
theorem utf8_of_laid {W : World} (h : laidMetH Tryd.prog laidL W) : Lib.Utf8Tabs (Tryd.lays197_ren.g 3) (Tryd.lays197_ren.g 4) W := by
  rw [MakeChecks.laidMetH_plain _ _ _ (by kernel_rfl)] at h
  obtain ⟨ps, hv, _⟩ := h
  refine utf8Tabs_of_reads { Tryd.lays197 with } u8x ?_ ?_
  · rw [← first_datum]
    exact Lib.LaidVars_reads hv _ _ (by unfold laidL Rows.lexReadsRow; simp)
  · rw [← accept_datum]
    exact Lib.LaidVars_reads hv _ _ (by unfold laidL Rows.lexReadsRow; simp)

/-! ### the witness's world -/
theorem start_met (os : Os) (args : Array Value) : laidMetH Tryd.prog laidL ((World.laidAll Tryd.prog os laidL).forCall (fun _ _ => 0) ⟨#[], args, []⟩).memory := by
  rw [MakeChecks.laidMetH_plain _ _ _ (by kernel_rfl)]
  exact laidMet_laidAll _ (by kernel_rfl) (by kernel_rfl)
theorem start_shaped (os : Os) : (World.laidAll Tryd.prog os laidL).Shaped Tryd.prog := World.shaped_of_ZipB (by kernel_rfl) (by kernel_rfl)

/-- A slice of code points that came in: nil, or a row of cells. -/
def IsRunes (w : World) (a : Option Addr) (len cap : Nat) (zs : List Int) : Prop :=
  (a = none ∧ len = 0 ∧ cap = 0 ∧ zs = []) ∨
  ∃ x, a = some x ∧ len ≤ cap ∧ cap ≤ maxLen ∧ zs.length = cap ∧ (∀ i, i < zs.length → w.cell? (x.add i) = some (.int .i32 (zs.getD i 0))) ∧ (∀ n ∈ zs, -2147483648 ≤ n ∧ n ≤ 2147483647)
section
variable {H : Type} {enc : TypeId × Value → H} {W : World} {b0 base : Nat} {held : Bool} {r : Reach} {v : Value} {d : DataW H} {p : List MemPlace}
theorem cells_i32 : Tryd.prog.cellsOf 21 = 1 := by kernel_rfl
theorem open_runes (hv : Value.okWide Tryd.prog W r b0 45 v) (h : DataW.Trod enc Tryd.prog W base (fun _ => true) held 45 v d p) : ∃ (a : Option Addr) (len cap : Nat) (zs : List Int), IsRunes W a len cap zs ∧ v = .slice a len cap := by
  obtain ⟨a0, len0, cap0, rfl⟩ := okWide_slice Tryd.underlying45 hv
  obtain ⟨fuel, hf⟩ := h
  rcases open_ints Tryd.underlying45 Tryd.underlying21 cells_i32 hf with ⟨hcs, _⟩ | ⟨x, l, c, zs, hcs, _, hl, hm, hz, _, hcell, hwz⟩
  · simp [Value.cells] at hcs
    obtain ⟨rfl, rfl, rfl⟩ := hcs
    exact ⟨_, _, _, [], .inl ⟨rfl, rfl, rfl, rfl⟩, rfl⟩
  · simp [Value.cells] at hcs
    obtain ⟨rfl, rfl, rfl⟩ := hcs
    exact ⟨_, _, _, zs, .inr ⟨_, rfl, hl, hm, by simpa using hz, hcell, fun n hn => bounds_i32 (hwz n hn)⟩, rfl⟩
end
end Go.Proofs.YtmiibffbakbklaaDoor
