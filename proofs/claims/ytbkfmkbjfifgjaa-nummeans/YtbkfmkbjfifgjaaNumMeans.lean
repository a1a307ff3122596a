/-
  NumMeans: the sum of every list, divided by every number and rounded down, is the document's, or there is none.
  Conditions: none beyond the given statement's own.
-/
import Derived.Test.YtbkfmkbjfifgjaaDivWalks2
import Derived.Test.YtbkfmkbjfifgjaaMeanWalks
import Derived.Test.YtbkfmkbjfifgjaaLawFrame
namespace Go.Proofs.Ytbkfmkbjfifgjaa.numMeans
open Go.ChangeShapes Go.WideShapes Go.ChangeAt Go.RowKit
set_option linter.unusedVariables false

theorem nums_of {w : World} {a : Option Addr} {len cap L : Nat} {zs : List Int} (h : IsRow w a len cap zs) (hL : L ≤ len) : Nums w a L zs := by
  rcases h with ⟨rfl, rfl, rfl, rfl⟩ | ⟨x, rfl, h1, h2, h3, h4, h5⟩
  · exact ⟨by simpa using hL, by simp, fun h0 => by omega⟩
  · refine ⟨by omega, h5, fun h0 => ?_⟩
    obtain ⟨b, off, rfl, hc⟩ := ints_at h4 (by omega)
    exact ⟨b, off, rfl, World.block_lt_of_cell? _ _ (hc 0 (by omega)), fun i hi => hc i (by omega)⟩

/-- The answer of both: nothing for a divisor that isn't positive. -/
def ansN (S k : Int) : Int := if 0 < k then fit (S / k) else 0
def ansB (S k : Int) : Bool := if 0 < k then fitB (S / k) else false

theorem fsum_any (d : Int) (x : Option Addr) (len cap : Nat) (zs : List Int) (w : World) (hd2 : I64 d) (h : Nums w x len zs) (h100 : len ≤ 100) :
    Calls Try.prog 29 #[.int .i64 d, .slice x len cap] w fun e w' => e = .returned (.tuple #[.int .i64 (ansN (sumTo zs len) d), .bool (ansB (sumTo zs len) d)]) ∧ Below w.heap.size w w' := by
  unfold ansN ansB
  by_cases hd : 0 < d
  · rw [if_pos hd, if_pos hd]; exact fsum_yes d x len cap zs w hd hd2 h h100
  · rw [if_neg hd, if_neg hd]
    refine (fsum_no d x len cap w (by omega)).mono ?_
    rintro e w' ⟨rfl, rfl⟩
    exact ⟨rfl, Below.refl _ _⟩

theorem rfsum_any (d : Int) (x : Option Addr) (len cap : Nat) (zs : List Int) (w : World) (hd2 : I64 d) (h : Nums w x len zs) (h100 : len ≤ 100) :
    Calls Try.prog 30 #[.int .i64 d, .slice x len cap] w fun e w' => e = .returned (.tuple #[.int .i64 (ansN (sumTo zs len) d), .bool (ansB (sumTo zs len) d)]) ∧ Below w.heap.size w w' := by
  unfold ansN ansB
  by_cases hd : 0 < d
  · rw [if_pos hd, if_pos hd]; exact rfsum_yes d x len cap zs w hd hd2 h h100
  · rw [if_neg hd, if_neg hd]
    refine (rfsum_no d x len cap w (by omega)).mono ?_
    rintro e w' ⟨rfl, rfl⟩
    exact ⟨rfl, Below.refl _ _⟩

theorem and15 (d : Int) : I64 (bits .and .i64 d 15) := by
  obtain ⟨m, hm⟩ : ∃ m : Nat, bits .and .i64 d 15 = IntKind.i64.wrap (m : Int) := ⟨_, rfl⟩
  rw [hm, IntKind.wrap_i64]
  unfold I64
  omega

/-- A new row of two numbers. -/
theorem two_new (w : World) (t : TypeId) (d u : Int) (hd : I64 d) (hu : I64 u) : Nums (w.alloc (.cells #[.int .i64 d, .int .i64 u] t)) (some ⟨w.heap.size, 0, none⟩) 2 [d, u] := by
  refine ⟨by simp, ?_, fun _ => ⟨w.heap.size, 0, rfl, by simp, ?_⟩⟩
  · intro z hz; simp at hz; rcases hz with rfl | rfl <;> assumption
  · intro i hi
    obtain rfl | rfl : i = 0 ∨ i = 1 := by omega
    · simp [go_sem]
    · simp [go_sem]

set_option maxHeartbeats 2000000 in
theorem walk (d : Int) (a : Option Addr) (len cap : Nat) (zs : List Int) (w : World) (hd : I64 d) (h : IsRow w a len cap zs) :
    Calls Try.prog 9 #[.int .i64 d, .slice a len cap] w fun e w' => e = .returned (.bool true) ∧ Below w.heap.size w w' := by
  have hN := fun L hL => nums_of (L := L) h hL
  have hlc : len ≤ cap ∧ cap ≤ maxLen := by
    rcases h with ⟨rfl, rfl, rfl, rfl⟩ | ⟨x, rfl, h1, h2, h3, h4, h5⟩
    · simp
    · exact ⟨h1, h2⟩
  unfold maxLen at hlc
  obtain ⟨hlc, hcm⟩ := hlc
  have hu := and15 d
  obtain ⟨u, hue⟩ : ∃ u, bits .and .i64 d 15 = u := ⟨_, rfl⟩
  rw [hue] at hu
  have HD := Lib.hid hd
  have HU := Lib.hid hu
  clear hd hu
  obtain ⟨L, hL, hL1, hL2⟩ : ∃ L : Nat, (min (len : Int) 60).toNat = L ∧ L ≤ len ∧ L ≤ 60 := ⟨_, rfl, by omega, by omega⟩
  have hN := hN L hL1
  have h100 : Hid (L ≤ 100) := by show _ ≤ _; omega
  clear h
  go_enter Try.func9, Try.ntmps9
  go_wp2
  go_loopw [21] (fun i wr => ∃ k : Nat, k ≤ 2 ∧ i = .int .i64 k ∧ Nums wr (some ⟨w.heap.size, 0, none⟩) 2 [d, u] ∧ Below w.heap.size w wr) (fun i _ => 2 - (intOf i).toNat)
  case atStart => exact ⟨0, by omega, rfl, two_new w _ d u HD.out HU.out, one_below w _⟩
  case round =>
    obtain ⟨k, hk, rfl, hP, hB⟩ := hrel
    have hN1 := hN.below hB
    by_cases hlt : k < 2
    · obtain ⟨b, off, hx, hb, hc⟩ := hP.at_ (by omega)
      cases hx
      have hck := hc k hlt
      rw [Nat.zero_add] at hck
      have hz := hP.get hlt
      obtain ⟨z, hze⟩ : ∃ z, [d, u].getD k 0 = z := ⟨_, rfl⟩
      rw [hze] at hck hz
      clear hc hze
      have HZ := Lib.hid hz
      clear hz
      go_wp2_with fail
      with_reducible refine (fsum_any z a L cap zs _ HZ.out hN1 h100.out).mono ?_
      rintro e w1 ⟨rfl, b1⟩
      have hN2 := hN1.below b1
      go_wp2_with fail
      with_reducible refine (rfsum_any z a L cap zs _ HZ.out hN2 h100.out).mono ?_
      rintro e w2 ⟨rfl, b2⟩
      go_wp2
      go_roundw
      case rel => exact ⟨k + 1, by omega, by go_num, (hP.below b1).below b2, on (on hB b1) b2⟩
      case measure => simp [intOf]; omega
    · go_wp2_with fail
      with_reducible refine (wakes_any _).mono ?_
      rintro e w3 ⟨rfl, b3⟩
      go_wp2
      go_ret
      exact ⟨rfl, on hB b3⟩

/-! ### the row -/
set_option maxRecDepth 100000 in
theorem lifted (os : Os) (started : os.Started) (H : Type) (enc : TypeId × Value → H) :
    ReturnsInHanded {} Try.checked os 9 .any (Rows.numMeansSpec.pre6 enc Try.prog Try.f9 Rows.numMeansRow.domain false) (Rows.numMeansSpec.post enc Try.prog Try.f9 false true false false) := by
  refine returnsInHanded_of_change (C := Try.checked) own started (by kernel_rfl) Try.func9
    (ChangeSpec.witness6 (enc := enc) (C := Try.checked) false ⟨#[], #[.int .i64 0, .slice none 0 0], []⟩ 8 (by kernel_rfl) (by kernel_rfl) (by kernel_rfl) (by kernel_rfl)) ?_
  intro W base args ds gs before hval0 hW hcnd _
  have hval : ∀ (j : Nat) t v, Try.f9.params[j]? = some t → args[j]? = some v → Value.okWide Try.prog W .any base t v := hval0
  have hW' := hW
  obtain ⟨p, q, hA0, hV, rfl, hfz, hnd⟩ := hW
  have hA : DataW.TrodAll enc Try.prog W 0 (fun _ => true) true Try.f9.params.toList args.toList ds p := hA0
  rw [Try.params9] at hA hval
  obtain ⟨v0, vs0, d0, ds0, p0, q0, hargs, rfl, rfl, h0, r0⟩ := trodAll_cons hA
  obtain ⟨v1, vs1, d1, ds1, p1, q1, rfl, rfl, rfl, h1, r1⟩ := trodAll_cons r0
  obtain ⟨rfl, rfl, rfl⟩ := trodAll_nil r1
  obtain rfl : args = #[v0, v1] := by cases args; simp_all
  obtain ⟨rfl, rfl⟩ := trodVars_none hV
  have k0 := h0
  have lt0 : ∀ x ∈ p0, x.block < W.heap.size := by obtain ⟨m, hm⟩ := k0; exact DataW.trod_lt m _ _ _ hm
  obtain ⟨a0, w0, rfl⟩ := open_num (hval 0 2 v0 rfl rfl) h0
  have k1 := h1
  have lt1 : ∀ x ∈ p1, x.block < W.heap.size := by obtain ⟨m, hm⟩ := k1; exact DataW.trod_lt m _ _ _ hm
  obtain ⟨a1, len1, cap1, z1, w1, rfl⟩ := open_row (hval 1 34 v1 rfl rfl) h1
  clear hA0 hval0
  refine (walk a0 a1 len1 cap1 z1 W w0 w1).mono fun e W' ⟨he, bel⟩ => ?_
  subst he
  exact ⟨_, rfl, _, _, _, [], _, [], hW', trodAll_mk1 (shut_bool Try.underlying4 _), (trodAll_cons_mk (Below.trod laidOut (by kernel_rfl) (of_decide_eq_true (by kernel_rfl)) k0 bel lt0) (trodAll_cons_mk (Below.trod laidOut (by kernel_rfl) (of_decide_eq_true (by kernel_rfl)) k1 bel lt1) trodAll_mk0)), rfl, bel.frame _, fun h => by cases h⟩

theorem over : Rows.numMeansRow.holds Try.pinned (OpenSpec.ofChange Rows.numMeansSpec) :=
  OpenClaim.holds_of_wide 9 Try.f9 rfl rfl rfl rfl rfl rfl rfl ⟨rfl, rfl, rfl, rfl, rfl⟩ rfl rfl rfl rfl rfl (by kernel_rfl) Try.func9 (by kernel_rfl)
    (of_decide_eq_true (by kernel_rfl)) (by unfold Func.isWrapper; first | (rw [if_pos (by decide +kernel)]; kernel_rfl) | (rw [if_neg (by decide +kernel)]; exact ⟨rfl, rfl⟩))
    (fun os started H enc _ => lifted os started H enc)

end Go.Proofs.Ytbkfmkbjfifgjaa.numMeans
namespace Go.Proofs.Ytbkfmkbjfifgjaa
theorem numMeans_holds : Rows.NumMeansSaid := numMeans.over
#print axioms numMeans_holds
end Go.Proofs.Ytbkfmkbjfifgjaa
