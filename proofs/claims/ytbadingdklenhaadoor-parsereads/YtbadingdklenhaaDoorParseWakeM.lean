/-
  What every statement of layer 10 asks first (wakes).
-/
import Derived.Test.YtbadingdklenhaaDoorParseFull
import Derived.Test.YtbadingdklenhaaDoorTie
import Derived.Test.YtbadingdklenhaaDoorCards
import Derived.ProofKit
import Derived.OpenShut
import Derived.ShutString
import Derived.ChangeOld
import Derived.Below
import Derived.LaidMore
import Derived.MakeChecks
import Derived.Stop.LaidErr
import Derived.SizedLaws
import Derived.Stop.Joined
import Derived.HandedShaped
import Derived.Lay
import Derived.PinnedBridge
import Derived.Lib.LaidU8
import Derived.LaidLaws
import Derived.Deep.Slices
import Derived.Deep.Matrix
import Derived.Laws.IdiomArrays
import Derived.Lib.SmallJoins
namespace Go.Proofs.YtbadingdklenhaaDoor
set_option maxRecDepth 100000
open Go.RowKit

theorem wake_yes : parseL [99, 111, 118, 101, 114, 32, 51, 32, 115, 101, 116, 32, 53, 58, 32, 48, 32, 50] = ⟨⟨3, 0, [], [], 3, [(5, [0, 2])]⟩, 0, 0, 0⟩ := by kernel_rfl
theorem wake_no : parseL [99, 111, 118, 101, 114, 32, 51, 32, 115, 101, 116, 32, 53, 58, 32, 50, 32, 50] = ⟨zIn, 1, 18, 4⟩ := by kernel_rfl

set_option maxHeartbeats 2000000 in
theorem wakes_any (w : World) (hL : LibOk w) (hW : WordsOk w) : Calls Tryd.prog 6 #[] w fun e w' => e = .returned (.bool true) ∧ Below w.heap.size w w' := by
  have P1 := parse_any ⟨#[99, 111, 118, 101, 114, 32, 51, 32, 115, 101, 116, 32, 53, 58, 32, 48, 32, 50]⟩ w hL hW
  have P2 := fun W a b => parse_any ⟨#[99, 111, 118, 101, 114, 32, 51, 32, 115, 101, 116, 32, 53, 58, 32, 50, 32, 50]⟩ W a b
  rw [show (⟨#[99, 111, 118, 101, 114, 32, 51, 32, 115, 101, 116, 32, 53, 58, 32, 48, 32, 50]⟩ : ByteArray).data.toList = [99, 111, 118, 101, 114, 32, 51, 32, 115, 101, 116, 32, 53, 58, 32, 48, 32, 50] from rfl, wake_yes] at P1
  rw [show (⟨#[99, 111, 118, 101, 114, 32, 51, 32, 115, 101, 116, 32, 53, 58, 32, 50, 32, 50]⟩ : ByteArray).data.toList = [99, 111, 118, 101, 114, 32, 51, 32, 115, 101, 116, 32, 53, 58, 32, 50, 32, 50] from rfl, wake_no] at P2
  unfold IsPs at P1 P2
  go_enter Tryd.func6, Tryd.ntmps6
  go_wp2_with fail
  with_reducible refine P1.mono ?_
  rintro e w1 ⟨v, rfl, hI, b1⟩
  obtain ⟨vi, vc, vs, uc, us, rfl, hi, hc, hs⟩ := hI.form
  obtain ⟨A0, C0, rfl, _, _⟩ := hi.form
  obtain ⟨A1, C1, rfl, _, _⟩ := hc.form
  obtain ⟨A2, C2, rfl, hC2, hM2⟩ := hs.form
  have hW1 : Below w1.heap.size w1 ((w1.alloc (.cells #[.int .i64 3, .int .i64 0, .slice A0 0 C0, .slice A1 0 C1, .int .i64 3, .slice A2 1 C2] 27)).alloc (.cells #[.int .i64 0, .int .i64 0] 29)) := (new_below _ _).alloc (by simp) _
  have I1 := ((iblk_new w1 (.int .i64 3) (.int .i64 0) (.slice A0 0 C0) (.slice A1 0 C1) (.int .i64 3) (.slice A2 1 C2) 27).next (new_below _ (.cells #[.int .i64 0, .int .i64 0] 29)))
  have hs1 := hs.next hW1
  have P3 := P2 _ (hL.below (b1.trans (hW1.mono b1.size))) (hW.next (b1.trans (hW1.mono b1.size)))
  have HB := Lib.hid (b1.trans (hW1.mono b1.size))
  clear hi hc hs hI b1 hW1 P2 P1
  go_wp2_with fail
  with_reducible refine P3.mono ?_
  rintro e w2 ⟨v2, rfl, hI2, b2⟩
  obtain ⟨B0, m0, D0, B1, m1, D1, B2, m2, D2, rfl⟩ := InV hI2
  obtain ⟨x0, x1, x2, x3, x4, x5⟩ := (I1.next b2).box
  obtain ⟨b, off, s, A', C', rfl, _, hb, hs0, hc0, hc1, _, hC', hM', hq⟩ := (hs1.next b2).get (i := 0) (by simp)
  obtain rfl : (5, [0, 2]) = s := by simpa using hs0
  have hl1 := (I1.next b2).lt
  have HB2 := Lib.hid (HB.out.trans (b2.mono (by have := HB.out.size; exact this)))
  simp only [Nat.zero_mul, Nat.add_zero] at hc0 hc1
  unfold maxLen at hM2 hM'
  clear hI2 I1 hs1 b2 HB hs0 hq P3 hL hW
  go_wp2
  go_ret
  have hz := HB2.out.size
  exact ⟨rfl, (HB2.out.alloc hz _).alloc (by simp; omega) _⟩
end Go.Proofs.YtbadingdklenhaaDoor

/-
  What the frames of the laws' proofs of layer 10 share: what the listed variables of Go's library and of the project give a walk; the witness's world.
-/
namespace Go.Proofs.YtbadingdklenhaaDoor
set_option maxRecDepth 100000
open Go.Joins Go.ChangeShapes Go.WideShapes Go.ChangeAt Go.RowKit Go.Deep

theorem own : ownKnob Tryd.prog.godebug = none := by kernel_rfl
theorem laidOut : laidOutB Tryd.prog = true := by kernel_rfl

/-- The listed variables, as every row of this seat lists them. -/
def laidL : List (String × DataW Unit) := Rows.parseReadsRow.laid
theorem laid_eq : laidL = Rows.parseReadsRow.laid := rfl
theorem gRng : Tryd.prog.globalNamed "strconv.ErrRange" = some 3 := by kernel_rfl
theorem tRng : (Tryd.prog.globals[3]?).map (·.type) = some 102 := by kernel_rfl
theorem cellsEs : Tryd.prog.cellsOf 150 = 1 := by kernel_rfl
theorem cellsStr : Tryd.prog.cellsOf 9 = 1 := by kernel_rfl
theorem star : "*" ++ "errors.errorString" = "*errors.errorString" := by decide
theorem rowEs (u : TypeId) (h : Tryd.prog.typeName? 3 u = some "*errors.errorString") : u = 148 :=
  typeName_ptr_named (nm := "errors.errorString") (by rw [star]; kernel_rfl) (by kernel_rfl) (by decide) u (by rw [star]; exact h)

/-- What the condition gives the walks. -/
theorem libOk_of_laid {W : World} (h : laidMetH Tryd.prog laidL W) : LibOk W := by
  rw [MakeChecks.laidMetH_plain _ _ _ (by kernel_rfl)] at h
  have h3 := h.tail.tail.tail.tail.tail
  obtain ⟨a, s, hv, _⟩ := laid_sentinel h3 gRng tRng Tryd.underlying102 rowEs Tryd.underlying148 Tryd.underlying150 rfl rfl Tryd.underlying9 cellsEs cellsStr
  exact ⟨_, _, hv⟩
theorem gWt : Tryd.prog.globalNamed "secateur/inst.words" = some 0 := by kernel_rfl
theorem tWt : (Tryd.prog.globals[0]?).map (·.type) = some 105 := by kernel_rfl
theorem cellsW : Tryd.prog.cellsOf 105 = 4 := by kernel_rfl
/-- What the condition gives the walks. -/
theorem words_of_laid {W : World} (h : laidMetH Tryd.prog laidL W) : WordsOk W := by
  rw [MakeChecks.laidMetH_plain _ _ _ (by kernel_rfl)] at h
  obtain ⟨ps, hvs, _⟩ := h
  obtain ⟨g0, t0, cs0, f0, p0, hg0, ht0, hv0, hd0⟩ := Lib.LaidVars_reads hvs "secateur/inst.words" Rows.laid_secateur_inst_words (by
    rw [laid_eq]
    unfold Rows.parseReadsRow
    simp)
  obtain rfl := Option.some.inj (gWt.symm.trans hg0)
  obtain rfl := Option.some.inj (tWt.symm.trans ht0)
  obtain ⟨xs, m, _, _, hcl, _, _⟩ := DataW.trod_array Tryd.underlying105 hd0
  rw [cellsW] at hcl
  obtain ⟨l0⟩ := cs0
  match l0, hcl with
  | [c0, c1, c2, c3], _ =>
    obtain ⟨y0, y1, y2, y3, n, hx, h0, h1, h2, h3⟩ := trod_array4 Tryd.underlying105 cellsStr hd0
    obtain ⟨s0, a0, b0, _⟩ := DataW.trod_string Tryd.underlying9 h0
    obtain ⟨s1, a1, b1, _⟩ := DataW.trod_string Tryd.underlying9 h1
    obtain ⟨s2, a2, b2, _⟩ := DataW.trod_string Tryd.underlying9 h2
    obtain ⟨s3, a3, b3, _⟩ := DataW.trod_string Tryd.underlying9 h3
    subst b0 b1 b2 b3
    simp at a0 a1 a2 a3
    subst a0 a1 a2 a3
    have hx1 := congrArg Prod.fst hx
    have hx2 : (Rows.laid_secateur_inst_words : DataW Unit) = .agg [.lit (.string s0.data.toList), .lit (.string s1.data.toList), .lit (.string s2.data.toList), .lit (.string s3.data.toList)] := hx1
    unfold Rows.laid_secateur_inst_words at hx2
    simp only [DataW.agg.injEq, List.cons.injEq, DataW.lit.injEq, Lit.string.injEq, and_true] at hx2
    obtain ⟨k0, k1, k2, k3⟩ := hx2
    have key : ∀ {A B : ByteArray}, A.data.toList = B.data.toList → A = B := fun h => ByteArray.ext (Array.toList_inj.1 h)
    have z0 : s0 = word 0 := key k0.symm
    have z1 : s1 = word 1 := key k1.symm
    have z2 : s2 = word 2 := key k2.symm
    have z3 : s3 = word 3 := key k3.symm
    intro i hi
    have hc := World.var?_cell gWt hv0 i
    rw [hc]
    match i, hi with
    | 0, _ => rw [z0]; rfl
    | 1, _ => rw [z1]; rfl
    | 2, _ => rw [z2]; rfl
    | 3, _ => rw [z3]; rfl

/-! ### the witness's world -/
theorem start_met (os : Os) (args : Array Value) : laidMetH Tryd.prog laidL ((World.laidAll Tryd.prog os laidL).forCall (fun _ _ => 0) ⟨#[], args, []⟩).memory := by
  rw [MakeChecks.laidMetH_plain _ _ _ (by kernel_rfl)]
  exact laidMet_laidAll _ (by kernel_rfl) (by kernel_rfl)
theorem start_shaped (os : Os) : (World.laidAll Tryd.prog os laidL).Shaped Tryd.prog := World.shaped_of_ZipB (by kernel_rfl) (by kernel_rfl)
end Go.Proofs.YtbadingdklenhaaDoor
