/-
  What the frames of the laws' proofs of layer 2 share: what the listed variables of Go's library give a walk; the witness's world; a string and pairs that came in.
-/
import Derived.Test.YtjaabjehegcnaaaDoorLawFrame
import Derived.Test.YtjaabjehegcnaaaDoorTextWalks
import Derived.Test.YtjaabjehegcnaaaDoorTie
import Derived.Test.YtjaabjehegcnaaaDoorCards
import Derived.LaidMore
import Derived.MakeChecks
import Derived.Stop.LaidErr
import Derived.SizedLaws
import Derived.Stop.Joined
namespace Go.Proofs.YtjaabjehegcnaaaDoor
set_option maxRecDepth 100000
open Go.ChangeShapes Go.WideShapes Go.ChangeAt Go.RowKit

/-- The listed variables, as every row of this seat lists them. -/
def laidL : List (String × DataW Unit) := Rows.ratioMakesRow.laid
theorem gTab : Tryd.prog.globalNamed "internal/strconv.uint64pow10" = some 0 := by kernel_rfl
theorem gSyn : Tryd.prog.globalNamed "strconv.ErrSyntax" = some 2 := by kernel_rfl
theorem gRng : Tryd.prog.globalNamed "strconv.ErrRange" = some 3 := by kernel_rfl
theorem tTab : (Tryd.prog.globals[0]?).map (·.type) = some 115 := by kernel_rfl
theorem tSyn : (Tryd.prog.globals[2]?).map (·.type) = some 71 := by kernel_rfl
theorem tRng : (Tryd.prog.globals[3]?).map (·.type) = some 71 := by kernel_rfl
theorem cellsU : Tryd.prog.cellsOf 78 = 1 := by kernel_rfl
theorem cellsTab : Tryd.prog.cellsOf 115 = 20 := by kernel_rfl
theorem cellsEs : Tryd.prog.cellsOf 133 = 1 := by kernel_rfl
theorem cellsStr : Tryd.prog.cellsOf 9 = 1 := by kernel_rfl
theorem star : "*" ++ "errors.errorString" = "*errors.errorString" := by decide
theorem rowEs (u : TypeId) (h : Tryd.prog.typeName? 3 u = some "*errors.errorString") : u = 131 :=
  typeName_ptr_named (nm := "errors.errorString") (by rw [star]; kernel_rfl) (by kernel_rfl) (by decide) u (by rw [star]; exact h)

theorem tab_datum : (Rows.laid_internal_strconv_uint64pow10 : DataW Unit) = Lib.tabData .u64 Lib.pow10Tab := by kernel_rfl

/-- What the condition gives the walks. -/
theorem libOk_of_laid {W : World} (h : laidMetH Tryd.prog laidL W) : LibOk W := by
  rw [MakeChecks.laidMetH_plain _ _ _ (by kernel_rfl)] at h
  have h2 := h.tail.tail
  have h3 := h2.tail
  have h4 := h3.tail
  rw [show (("internal/strconv.uint64pow10", Rows.laid_internal_strconv_uint64pow10) : String × DataW Unit) = ("internal/strconv.uint64pow10", Lib.tabData .u64 Lib.pow10Tab) from by rw [tab_datum]] at h2
  refine ⟨Lib.tabIs_of_head gTab tTab Tryd.underlying115 Tryd.underlying78 cellsU cellsTab h2, ?_, ?_⟩
  · obtain ⟨a, s, hv, _⟩ := laid_sentinel h4 gSyn tSyn Tryd.underlying71 rowEs Tryd.underlying131 Tryd.underlying133 rfl rfl Tryd.underlying9 cellsEs cellsStr
    exact ⟨_, _, hv⟩
  · obtain ⟨a, s, hv, _⟩ := laid_sentinel h3 gRng tRng Tryd.underlying71 rowEs Tryd.underlying131 Tryd.underlying133 rfl rfl Tryd.underlying9 cellsEs cellsStr
    exact ⟨_, _, hv⟩

/-- The door's own heap meets the condition. -/
theorem door_met (os : Os) (args : Array Value) : laidMetH Tryd.prog laidL ((World.doorLaid Tryd.prog 400 os).forCall (fun _ _ => 0) ⟨#[], args, []⟩).memory :=
  laidMetH_of_parts3 (fuel := 8) (laidMet_of_run' 8 (by kernel_rfl) (by kernel_rfl)) (by kernel_rfl) (by kernel_rfl)
end Go.Proofs.YtjaabjehegcnaaaDoor
