/-
  NumLists: the sum of every list of numbers of 64 bits is the document's, or there is none.
  Conditions: none beyond the given statement's own.
-/
import Derived.Test.YtbkfmkbjfifgjaaSumWalks
import Derived.Test.YtbkfmkbjfifgjaaLawFrame
namespace Go.Proofs.Ytbkfmkbjfifgjaa.numLists
open Go.ChangeShapes Go.WideShapes Go.ChangeAt Go.RowKit
set_option linter.unusedVariables false

theorem nums_of {w : World} {a : Option Addr} {len cap L : Nat} {zs : List Int} (h : IsRow w a len cap zs) (hL : L ≤ len) : Nums w a L zs := by
  rcases h with ⟨rfl, rfl, rfl, rfl⟩ | ⟨x, rfl, h1, h2, h3, h4, h5⟩
  · exact ⟨by simpa using hL, by simp, fun h0 => by omega⟩
  · refine ⟨by omega, h5, fun h0 => ?_⟩
    obtain ⟨b, off, rfl, hc⟩ := ints_at h4 (by omega)
    exact ⟨b, off, rfl, World.block_lt_of_cell? _ _ (hc 0 (by omega)), fun i hi => hc i (by omega)⟩

set_option maxHeartbeats 2000000 in
theorem walk (a : Option Addr) (len cap : Nat) (zs : List Int) (w : World) (h : IsRow w a len cap zs) :
    Calls Try.prog 4 #[.slice a len cap] w fun e w' => e = .returned (.bool true) ∧ Below w.heap.size w w' := by
  have hN := fun L hL => nums_of (L := L) h hL
  have hlc : len ≤ cap ∧ cap ≤ maxLen := by
    rcases h with ⟨rfl, rfl, rfl, rfl⟩ | ⟨x, rfl, h1, h2, h3, h4, h5⟩
    · simp
    · exact ⟨h1, h2⟩
  unfold maxLen at hlc
  obtain ⟨hlc, hcm⟩ := hlc
  by_cases h100 : len ≤ 100
  · have hN := hN len (Nat.le_refl _)
    clear h
    go_enter Try.func4, Try.ntmps4
    go_wp2_with fail
    with_reducible refine (sum_any a len cap zs _ hN h100).mono ?_
    rintro e w1 ⟨rfl, b1⟩
    have hN1 := hN.below b1
    go_wp2_with fail
    with_reducible refine (rsum_any a len cap zs _ hN1 h100).mono ?_
    rintro e w2 ⟨rfl, b2⟩
    go_wp2_with fail
    with_reducible refine (wakes_any _).mono ?_
    rintro e w3 ⟨rfl, b3⟩
    go_wp2
    go_ret
    exact ⟨rfl, on (on b1 b2) b3⟩
  · have hN := hN 100 (by omega)
    clear h
    go_enter Try.func4, Try.ntmps4
    go_wp2_with fail
    with_reducible refine (sum_any a 100 cap zs _ hN (Nat.le_refl _)).mono ?_
    rintro e w1 ⟨rfl, b1⟩
    have hN1 := hN.below b1
    go_wp2_with fail
    with_reducible refine (rsum_any a 100 cap zs _ hN1 (Nat.le_refl _)).mono ?_
    rintro e w2 ⟨rfl, b2⟩
    go_wp2_with fail
    with_reducible refine (wakes_any _).mono ?_
    rintro e w3 ⟨rfl, b3⟩
    go_wp2
    go_ret
    exact ⟨rfl, on (on b1 b2) b3⟩

/-! ### the row -/
set_option maxRecDepth 100000 in
theorem lifted (os : Os) (started : os.Started) (H : Type) (enc : TypeId × Value → H) :
    ReturnsInHanded {} Try.checked os 4 .any (Rows.numListsSpec.pre6 enc Try.prog Try.f4 Rows.numListsRow.domain false) (Rows.numListsSpec.post enc Try.prog Try.f4 false true false false) := by
  refine returnsInHanded_of_change (C := Try.checked) own started (by kernel_rfl) Try.func4
    (ChangeSpec.witness6 (enc := enc) (C := Try.checked) false ⟨#[], #[.slice none 0 0], []⟩ 8 (by kernel_rfl) (by kernel_rfl) (by kernel_rfl) (by kernel_rfl)) ?_
  intro W base args ds gs before hval0 hW hcnd _
  have hval : ∀ (j : Nat) t v, Try.f4.params[j]? = some t → args[j]? = some v → Value.okWide Try.prog W .any base t v := hval0
  have hW' := hW
  obtain ⟨p, q, hA0, hV, rfl, hfz, hnd⟩ := hW
  have hA : DataW.TrodAll enc Try.prog W 0 (fun _ => true) true Try.f4.params.toList args.toList ds p := hA0
  rw [Try.params4] at hA hval
  obtain ⟨v0, vs0, d0, ds0, p0, q0, hargs, rfl, rfl, h0, r0⟩ := trodAll_cons hA
  obtain ⟨rfl, rfl, rfl⟩ := trodAll_nil r0
  obtain rfl : args = #[v0] := by cases args; simp_all
  obtain ⟨rfl, rfl⟩ := trodVars_none hV
  have k0 := h0
  have lt0 : ∀ x ∈ p0, x.block < W.heap.size := by obtain ⟨m, hm⟩ := k0; exact DataW.trod_lt m _ _ _ hm
  obtain ⟨a0, len0, cap0, z0, w0, rfl⟩ := open_row (hval 0 34 v0 rfl rfl) h0
  clear hA0 hval0
  refine (walk a0 len0 cap0 z0 W w0).mono fun e W' ⟨he, bel⟩ => ?_
  subst he
  exact ⟨_, rfl, _, _, _, [], _, [], hW', trodAll_mk1 (shut_bool Try.underlying4 _), (trodAll_cons_mk (Below.trod laidOut (by kernel_rfl) (of_decide_eq_true (by kernel_rfl)) k0 bel lt0) trodAll_mk0), rfl, bel.frame _, fun h => by cases h⟩

theorem over : Rows.numListsRow.holds Try.pinned (OpenSpec.ofChange Rows.numListsSpec) :=
  OpenClaim.holds_of_wide 4 Try.f4 rfl rfl rfl rfl rfl rfl rfl ⟨rfl, rfl, rfl, rfl, rfl⟩ rfl rfl rfl rfl rfl (by kernel_rfl) Try.func4 (by kernel_rfl)
    (of_decide_eq_true (by kernel_rfl)) (by unfold Func.isWrapper; first | (rw [if_pos (by decide +kernel)]; kernel_rfl) | (rw [if_neg (by decide +kernel)]; exact ⟨rfl, rfl⟩))
    (fun os started H enc _ => lifted os started H enc)

end Go.Proofs.Ytbkfmkbjfifgjaa.numLists
namespace Go.Proofs.Ytbkfmkbjfifgjaa
theorem numLists_holds : Rows.NumListsSaid := numLists.over
#print axioms numLists_holds
end Go.Proofs.Ytbkfmkbjfifgjaa
