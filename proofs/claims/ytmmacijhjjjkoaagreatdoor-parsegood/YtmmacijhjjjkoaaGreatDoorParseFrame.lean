/-
  What the frames of the laws' proofs of layer 10 share: what the listed variables of Go's library and of the project give a walk; the witness's world.
-/
import Derived.Test.YtmmacijhjjjkoaaGreatDoorParseWake
import Derived.Test.YtmmacijhjjjkoaaGreatDoorTie
import Derived.Test.YtmmacijhjjjkoaaGreatDoorCards
import Derived.ProofKit
import Derived.OpenShut
import Derived.ShutString
import Derived.ChangeOld
import Derived.Below
import Derived.LaidMore
import Derived.MakeChecks
import Derived.Stop.LaidErr
import Derived.SizedLaws
import Derived.Stop.Joined
import Derived.HandedShaped
import Derived.Lay
import Derived.PinnedBridge
import Derived.Lib.LaidU8
import Derived.LaidLaws
import Derived.Deep.Slices
import Derived.Deep.Matrix
import Derived.Laws.IdiomArrays
import Derived.Lib.SmallJoins
namespace Go.Proofs.YtmmacijhjjjkoaaGreatDoor
set_option maxRecDepth 100000
open Go.Joins Go.ChangeShapes Go.WideShapes Go.ChangeAt Go.RowKit Go.Deep

theorem own : ownKnob Tryz.prog.godebug = none := by kernel_rfl
theorem laidOut : laidOutB Tryz.prog = true := by kernel_rfl

/-- The listed variables, as every row of this seat lists them. -/
def laidL : List (String × DataW Unit) := Rows.parseGoodRow.laid
theorem laid_eq : laidL = Rows.parseGoodRow.laid := rfl
theorem gRng : Tryz.prog.globalNamed "strconv.ErrRange" = some 3 := by kernel_rfl
theorem tRng : (Tryz.prog.globals[3]?).map (·.type) = some 85 := by kernel_rfl
theorem cellsEs : Tryz.prog.cellsOf 130 = 1 := by kernel_rfl
theorem cellsStr : Tryz.prog.cellsOf 9 = 1 := by kernel_rfl
theorem star : "*" ++ "errors.errorString" = "*errors.errorString" := by decide
theorem rowEs (u : TypeId) (h : Tryz.prog.typeName? 3 u = some "*errors.errorString") : u = 128 :=
  typeName_ptr_named (nm := "errors.errorString") (by rw [star]; kernel_rfl) (by kernel_rfl) (by decide) u (by rw [star]; exact h)

/-- What the condition gives the walks. -/
theorem libOk_of_laid {W : World} (h : laidMetH Tryz.prog laidL W) : LibOk W := by
  rw [MakeChecks.laidMetH_plain _ _ _ (by kernel_rfl)] at h
  have h3 := h.tail.tail.tail.tail.tail
  obtain ⟨a, s, hv, _⟩ := laid_sentinel h3 gRng tRng Tryz.underlying85 rowEs Tryz.underlying128 Tryz.underlying130 rfl rfl Tryz.underlying9 cellsEs cellsStr
  exact ⟨_, _, hv⟩
theorem gWt : Tryz.prog.globalNamed "secateur/inst.words" = some 1 := by kernel_rfl
theorem tWt : (Tryz.prog.globals[1]?).map (·.type) = some 71 := by kernel_rfl
theorem cellsW : Tryz.prog.cellsOf 71 = 4 := by kernel_rfl
/-- What the condition gives the walks. -/
theorem words_of_laid {W : World} (h : laidMetH Tryz.prog laidL W) : WordsOk W := by
  rw [MakeChecks.laidMetH_plain _ _ _ (by kernel_rfl)] at h
  obtain ⟨ps, hvs, _⟩ := h
  obtain ⟨g0, t0, cs0, f0, p0, hg0, ht0, hv0, hd0⟩ := Lib.LaidVars_reads hvs "secateur/inst.words" Rows.laid_secateur_inst_words (by
    rw [laid_eq]
    unfold Rows.parseGoodRow
    simp)
  obtain rfl := Option.some.inj (gWt.symm.trans hg0)
  obtain rfl := Option.some.inj (tWt.symm.trans ht0)
  obtain ⟨xs, m, _, _, hcl, _, _⟩ := DataW.trod_array Tryz.underlying71 hd0
  rw [cellsW] at hcl
  obtain ⟨l0⟩ := cs0
  match l0, hcl with
  | [c0, c1, c2, c3], _ =>
    obtain ⟨y0, y1, y2, y3, n, hx, h0, h1, h2, h3⟩ := trod_array4 Tryz.underlying71 cellsStr hd0
    obtain ⟨s0, a0, b0, _⟩ := DataW.trod_string Tryz.underlying9 h0
    obtain ⟨s1, a1, b1, _⟩ := DataW.trod_string Tryz.underlying9 h1
    obtain ⟨s2, a2, b2, _⟩ := DataW.trod_string Tryz.underlying9 h2
    obtain ⟨s3, a3, b3, _⟩ := DataW.trod_string Tryz.underlying9 h3
    subst b0 b1 b2 b3
    simp at a0 a1 a2 a3
    subst a0 a1 a2 a3
    have hx1 := congrArg Prod.fst hx
    have hx2 : (Rows.laid_secateur_inst_words : DataW Unit) = .agg [.lit (.string s0.data.toList), .lit (.string s1.data.toList), .lit (.string s2.data.toList), .lit (.string s3.data.toList)] := hx1
    unfold Rows.laid_secateur_inst_words at hx2
    simp only [DataW.agg.injEq, List.cons.injEq, DataW.lit.injEq, Lit.string.injEq, and_true] at hx2
    obtain ⟨k0, k1, k2, k3⟩ := hx2
    have key : ∀ {A B : ByteArray}, A.data.toList = B.data.toList → A = B := fun h => ByteArray.ext (Array.toList_inj.1 h)
    have z0 : s0 = word 0 := key k0.symm
    have z1 : s1 = word 1 := key k1.symm
    have z2 : s2 = word 2 := key k2.symm
    have z3 : s3 = word 3 := key k3.symm
    intro i hi
    have hc := World.var?_cell gWt hv0 i
    rw [hc]
    match i, hi with
    | 0, _ => rw [z0]; rfl
    | 1, _ => rw [z1]; rfl
    | 2, _ => rw [z2]; rfl
    | 3, _ => rw [z3]; rfl

/-! ### the witness's world -/
theorem start_met (os : Os) (args : Array Value) : laidMetH Tryz.prog laidL ((World.laidAll Tryz.prog os laidL).forCall (fun _ _ => 0) ⟨#[], args, []⟩).memory := by
  rw [MakeChecks.laidMetH_plain _ _ _ (by kernel_rfl)]
  exact laidMet_laidAll _ (by kernel_rfl) (by kernel_rfl)
theorem start_shaped (os : Os) : (World.laidAll Tryz.prog os laidL).Shaped Tryz.prog := World.shaped_of_ZipB (by kernel_rfl) (by kernel_rfl)
end Go.Proofs.YtmmacijhjjjkoaaGreatDoor
