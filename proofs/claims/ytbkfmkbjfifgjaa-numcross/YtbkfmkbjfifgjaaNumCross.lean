/-
  NumCross: which of every two products is the greater one is the document's answer, for every numbers of 64 bits.
  Conditions: none beyond the given statement's own.
-/
import Derived.Test.YtbkfmkbjfifgjaaNumWalks3
import Derived.Test.YtbkfmkbjfifgjaaBigWalks8
import Derived.Test.YtbkfmkbjfifgjaaLawFrame
namespace Go.Proofs.Ytbkfmkbjfifgjaa.numCross
open Go.ChangeShapes Go.WideShapes Go.ChangeAt Go.RowKit
set_option linter.unusedVariables false

theorem cross_same (a c : Int) (ha : I64 a) (hc : I64 c) (w : World) :
    Calls Try.prog 27 #[.int .i64 a, .int .i64 c, .int .i64 a, .int .i64 c] w fun e w' => e = .returned (.int .i64 0) ∧ Below w.heap.size w w' := by
  have h := cross_any a c a c ha hc ha hc w
  rw [show cmp3 (a * c) (a * c) = 0 by unfold cmp3; simp] at h
  exact h

/-- Three pairs lie in three blocks, the first of number n. -/
structure Three (n : Nat) (a b c d e f : Int) (w : World) : Prop where
  mk ::
  c0 : w.cell? ⟨n, 0, none⟩ = some (.int .i64 a)
  c1 : w.cell? ⟨n, 1, none⟩ = some (.int .i64 b)
  c2 : w.cell? ⟨n + 1, 0, none⟩ = some (.int .i64 c)
  c3 : w.cell? ⟨n + 1, 1, none⟩ = some (.int .i64 d)
  c4 : w.cell? ⟨n + 1 + 1, 0, none⟩ = some (.int .i64 e)
  c5 : w.cell? ⟨n + 1 + 1, 1, none⟩ = some (.int .i64 f)
  size : n + 2 < w.heap.size
theorem Three.below {n : Nat} {a b c d e f : Int} {w w' : World} (h : Three n a b c d e f w) (hb : Below w.heap.size w w') : Three n a b c d e f w' := by
  have hs := h.size
  exact ⟨by rw [hb.cell (by show n < _; omega)]; exact h.c0, by rw [hb.cell (by show n < _; omega)]; exact h.c1, by rw [hb.cell (by show n + 1 < _; omega)]; exact h.c2, by rw [hb.cell (by show n + 1 < _; omega)]; exact h.c3,
    by rw [hb.cell (by show n + 1 + 1 < _; omega)]; exact h.c4, by rw [hb.cell (by show n + 1 + 1 < _; omega)]; exact h.c5, Nat.lt_of_lt_of_le hs hb.size⟩
theorem Three.drew {n : Nat} {a b c d e f : Int} {w : World} (h : Three n a b c d e f w) : Three n a b c d e f w.drew := ⟨h.c0, h.c1, h.c2, h.c3, h.c4, h.c5, h.size⟩
theorem Three.out {n : Nat} {a b c d e f : Int} {w : World} (h : Three n a b c d e f w) : w.cell? ⟨n, 0, none⟩ = some (.int .i64 a) ∧ w.cell? ⟨n, 1, none⟩ = some (.int .i64 b) ∧ w.cell? ⟨n + 1, 0, none⟩ = some (.int .i64 c) ∧ w.cell? ⟨n + 1, 1, none⟩ = some (.int .i64 d) ∧ w.cell? ⟨n + 1 + 1, 0, none⟩ = some (.int .i64 e) :=
  ⟨h.c0, h.c1, h.c2, h.c3, h.c4⟩
theorem three_new (w : World) (a b c d e f : Int) : Three w.heap.size a b c d e f (((w.alloc (.cells #[.int .i64 a, .int .i64 b] 39)).alloc (.cells #[.int .i64 c, .int .i64 d] 39)).alloc (.cells #[.int .i64 e, .int .i64 f] 39)) :=
  ⟨by simp [go_sem], by simp [go_sem], by simp [go_sem], by simp [go_sem], by simp [go_sem], by simp [go_sem], by simp⟩

set_option maxHeartbeats 4000000 in
theorem walk (a b c d e f : Int) (ha : I64 a) (hb : I64 b) (hc : I64 c) (hd : I64 d) (he : I64 e) (hf : I64 f) (w : World) :
    Calls Try.prog 6 #[.agg #[.int .i64 a, .int .i64 b], .agg #[.int .i64 c, .int .i64 d], .agg #[.int .i64 e, .int .i64 f]] w fun r w' => r = .returned (.bool true) ∧ Below w.heap.size w w' := by
  have T0 := Lib.hid (three_new w a b c d e f)
  have B0 := Lib.hid (three_below w (.cells #[.int .i64 a, .int .i64 b] 39) (.cells #[.int .i64 c, .int .i64 d] 39) (.cells #[.int .i64 e, .int .i64 f] 39))
  go_enter Try.func6, Try.ntmps6
  go_wp2
  go_region_held3 (fun w' => w'.cell? ⟨w.heap.size, 0, none⟩ = some (.int .i64 a) ∧ w'.cell? ⟨w.heap.size, 1, none⟩ = some (.int .i64 b) ∧ w'.cell? ⟨w.heap.size + 1, 0, none⟩ = some (.int .i64 c) ∧ w'.cell? ⟨w.heap.size + 1, 1, none⟩ = some (.int .i64 d) ∧ w'.cell? ⟨w.heap.size + 1 + 1, 0, none⟩ = some (.int .i64 e))
    (first | exact T0.out.out | exact T0.out.drew.out | exact (T0.out.drew.below hb5).out | exact ((T0.out.drew.below hb5).below hb6).out | exact (((T0.out.drew.below hb5).below hb6).below hb7).out | exact ((((T0.out.drew.below hb5).below hb6).below hb7).below hb8).out)
    (first
      | (go_at_call 19; (with_reducible refine (wakes_any _).mono ?_); rintro r w5 ⟨rfl, hb5⟩)
      | (go_at_call_of 27 (Value.int IntKind.i64 e); (with_reducible refine (cross_same a e ha he _).mono ?_); rintro r w8 ⟨rfl, hb8⟩)
      | (go_at_call 27; (with_reducible refine (cross_any a b c d ha hb hc hd _).mono ?_); rintro r w6 ⟨rfl, hb6⟩)
      | (go_at_call 28; (with_reducible refine (rcross_any a b c d ha hb hc hd _).mono ?_); rintro r w7 ⟨rfl, hb7⟩))
  go_wp2
  go_ret
  exact ⟨rfl, on (on (on (on B0.out.drew hb5) hb6) hb7) hb8⟩

/-! ### the row -/
set_option maxRecDepth 100000 in
theorem lifted (os : Os) (started : os.Started) (H : Type) (enc : TypeId × Value → H) :
    ReturnsInHanded {} Try.checked os 6 .any (Rows.numCrossSpec.pre6 enc Try.prog Try.f6 Rows.numCrossRow.domain false) (Rows.numCrossSpec.post enc Try.prog Try.f6 false true false false) := by
  refine returnsInHanded_of_change (C := Try.checked) own started (by kernel_rfl) Try.func6
    (ChangeSpec.witness6 (enc := enc) (C := Try.checked) false ⟨#[], #[.agg #[.int .i64 0, .int .i64 0], .agg #[.int .i64 0, .int .i64 0], .agg #[.int .i64 0, .int .i64 0]], []⟩ 8 (by kernel_rfl) (by kernel_rfl) (by kernel_rfl) (by kernel_rfl)) ?_
  intro W base args ds gs before hval0 hW hcnd _
  have hval : ∀ (j : Nat) t v, Try.f6.params[j]? = some t → args[j]? = some v → Value.okWide Try.prog W .any base t v := hval0
  have hW' := hW
  obtain ⟨p, q, hA0, hV, rfl, hfz, hnd⟩ := hW
  have hA : DataW.TrodAll enc Try.prog W 0 (fun _ => true) true Try.f6.params.toList args.toList ds p := hA0
  rw [Try.params6] at hA hval
  obtain ⟨v0, vs0, d0, ds0, p0, q0, hargs, rfl, rfl, h0, r0⟩ := trodAll_cons hA
  obtain ⟨v1, vs1, d1, ds1, p1, q1, rfl, rfl, rfl, h1, r1⟩ := trodAll_cons r0
  obtain ⟨v2, vs2, d2, ds2, p2, q2, rfl, rfl, rfl, h2, r2⟩ := trodAll_cons r1
  obtain ⟨rfl, rfl, rfl⟩ := trodAll_nil r2
  obtain rfl : args = #[v0, v1, v2] := by cases args; simp_all
  obtain ⟨rfl, rfl⟩ := trodVars_none hV
  have k0 := h0
  have lt0 : ∀ x ∈ p0, x.block < W.heap.size := by obtain ⟨m, hm⟩ := k0; exact DataW.trod_lt m _ _ _ hm
  obtain ⟨a0, b0, wa0, wb0, rfl⟩ := open_pair (hval 0 39 v0 rfl rfl) h0
  have k1 := h1
  have lt1 : ∀ x ∈ p1, x.block < W.heap.size := by obtain ⟨m, hm⟩ := k1; exact DataW.trod_lt m _ _ _ hm
  obtain ⟨a1, b1, wa1, wb1, rfl⟩ := open_pair (hval 1 39 v1 rfl rfl) h1
  have k2 := h2
  have lt2 : ∀ x ∈ p2, x.block < W.heap.size := by obtain ⟨m, hm⟩ := k2; exact DataW.trod_lt m _ _ _ hm
  obtain ⟨a2, b2, wa2, wb2, rfl⟩ := open_pair (hval 2 39 v2 rfl rfl) h2
  clear hA0 hval0
  refine (walk a0 b0 a1 b1 a2 b2 wa0 wb0 wa1 wb1 wa2 wb2 W).mono fun e W' ⟨he, bel⟩ => ?_
  subst he
  exact ⟨_, rfl, _, _, _, [], _, [], hW', trodAll_mk1 (shut_bool Try.underlying4 _), (trodAll_cons_mk (Below.trod laidOut (by kernel_rfl) (of_decide_eq_true (by kernel_rfl)) k0 bel lt0) (trodAll_cons_mk (Below.trod laidOut (by kernel_rfl) (of_decide_eq_true (by kernel_rfl)) k1 bel lt1) (trodAll_cons_mk (Below.trod laidOut (by kernel_rfl) (of_decide_eq_true (by kernel_rfl)) k2 bel lt2) trodAll_mk0))), rfl, bel.frame _, fun h => by cases h⟩

theorem over : Rows.numCrossRow.holds Try.pinned (OpenSpec.ofChange Rows.numCrossSpec) :=
  OpenClaim.holds_of_wide 6 Try.f6 rfl rfl rfl rfl rfl rfl rfl ⟨rfl, rfl, rfl, rfl, rfl⟩ rfl rfl rfl rfl rfl (by kernel_rfl) Try.func6 (by kernel_rfl)
    (of_decide_eq_true (by kernel_rfl)) (by unfold Func.isWrapper; first | (rw [if_pos (by decide +kernel)]; kernel_rfl) | (rw [if_neg (by decide +kernel)]; exact ⟨rfl, rfl⟩))
    (fun os started H enc _ => lifted os started H enc)

end Go.Proofs.Ytbkfmkbjfifgjaa.numCross
namespace Go.Proofs.Ytbkfmkbjfifgjaa
theorem numCross_holds : Rows.NumCrossSaid := numCross.over
#print axioms numCross_holds
end Go.Proofs.Ytbkfmkbjfifgjaa
