/-
  LexReads: of every text the tokens, the place and the error that Lex answers are the document's, and so is what is joined of them. For every text, wherever it lies; under the row's own condition on the listed variables of Go's library.
-/
import Derived.Test.YtmiibffbakbklaaDoorLexFrame
import Derived.Test.YtmiibffbakbklaaDoorLexRjoin
import Derived.Test.YtmiibffbakbklaaDoorLexRlex
namespace Go.Proofs.YtmiibffbakbklaaDoor.lexReads
set_option maxRecDepth 100000
open Go.RowKit Go.Proofs.YtmiibffbakbklaaDoor

theorem on2 {a b c : World} (h1 : Below a.heap.size a b) (h2 : Below b.heap.size b c) : Below a.heap.size a c := h1.trans (h2.mono h1.size)
/-- A place in a variable of its own. -/
structure PBox (g : Nat) (a b : Int) (w : World) : Prop where
  mk ::
  c0 : w.cell? ⟨g, 0, none⟩ = some (.int .i64 a)
  c1 : w.cell? ⟨g, 1, none⟩ = some (.int .i64 b)
  size : g < w.heap.size
theorem PBox.next {g : Nat} {a b : Int} {w w' : World} (h : PBox g a b w) (hb : Below w.heap.size w w') : PBox g a b w' :=
  ⟨(hb.cell (by exact h.size)).trans h.c0, (hb.cell (by exact h.size)).trans h.c1, Nat.lt_of_lt_of_le h.size hb.size⟩
theorem pbox_new (w : World) (a b : Int) (t : TypeId) : PBox w.heap.size a b (w.alloc (.cells #[.int .i64 a, .int .i64 b] t)) := ⟨by simp [go_sem], by simp [go_sem], by simp⟩
theorem toks_texts (l : List UInt8) : ∀ x ∈ (lexP l).toks, x.kind ≠ 3 → x.text ≠ [] := by
  intro x hx hk
  by_cases he : (lexP l).err = 0
  · have e1 := (lexP_ok he).1
    rw [e1] at he hx
    obtain ⟨ts, e, h1, h2, h3, _⟩ := lx_good _ _ (Nat.le_refl _) 1 1 false he
    rw [h1] at hx
    rcases List.mem_append.1 hx with hx | hx
    · exact (h2 x hx).2.1
    · rw [List.mem_singleton.1 hx] at hk
      exact absurd h3.1 hk
  · rw [lexP_bad he] at hx
    exact absurd hx List.not_mem_nil

set_option maxHeartbeats 8000000 in
theorem walk (s : ByteArray) (_hs : s.size ≤ 281474976710656) (w : World) (hL : LibOk w) :
    Calls Tryd.prog 3 #[.string s] w fun e w' => e = .returned (.bool true) ∧ Below w.heap.size w w' := by
  have LX := fun W hW => lex_any s W hW
  have RX := fun W => rlex_any s W
  have WK := fun W hW => wakes_any W hW
  have hsum := lexP_sum s.data.toList
  have hjl := jnf_le (lexP s.data.toList).toks [] (by simp)
  have hrj : rjn [] (lexP s.data.toList).toks = jnf [] (lexP s.data.toList).toks := by
    have := rjn_jnf (lexP s.data.toList).toks [] (toks_texts s.data.toList)
    simpa using this
  generalize lexP s.data.toList = R at *
  obtain ⟨L, pl1, pc1, er⟩ := R
  simp only at *
  have JN := fun v W hW => join_any L v (by omega) (by omega) W hW
  have RJ := fun v W hW => rjoin_any L v (by rw [hrj]; omega) (by omega) W hW
  rw [hrj] at RJ
  generalize (⟨(jnf [] L).toArray⟩ : ByteArray) = T at *
  clear hrj hjl
  go_enter Tryd.func3, Tryd.ntmps3
  go_wp2_with fail
  with_reducible refine (LX _ hL).mono ?_
  rintro e w1 ⟨v1, rfl, own1, b1⟩
  have T1 := toks_of_own own1
  have c1 := new_below w1 (.cells #[.int .i64 (pl1 : Nat), .int .i64 (pc1 : Nat)] 24)
  have P1 := pbox_new w1 (pl1 : Nat) (pc1 : Nat) 24
  have T1a := T1.next c1
  have L1 := (hL.below b1).below c1
  have B1 := on2 b1 c1
  clear own1 T1 c1 b1 LX
  go_wp2_with fail
  with_reducible refine (RX _).mono ?_
  rintro e w2 ⟨v2, rfl, own2, b2⟩
  have T2 := toks_of_own own2
  have c2 := new_below w2 (.cells #[.int .i64 (pl1 : Nat), .int .i64 (pc1 : Nat)] 29)
  have P2 := pbox_new w2 (pl1 : Nat) (pc1 : Nat) 29
  have P1b := (P1.next b2).next c2
  have T1b := (T1a.next b2).next c2
  have T2b := T2.next c2
  have L2 := (L1.below b2).below c2
  have B2 := on2 (on2 B1 b2) c2
  clear own2 T2 c2 b2 RX T1a P1 L1 B1
  go_wp2_with fail
  with_reducible refine (WK _ L2).mono ?_
  rintro e w3 ⟨rfl, b3⟩
  have P1c := P1b.next b3
  have P2c := P2.next b3
  have T1c := T1b.next b3
  have T2c := T2b.next b3
  have B3 := on2 B2 b3
  clear P1b P2 T1b T2b L2 B2 b3 WK
  obtain ⟨p0, p1, pz⟩ := P1c
  obtain ⟨r0, r1, rz⟩ := P2c
  have hT1 := Lib.hid T1c
  have hT2 := Lib.hid T2c
  obtain ⟨A1, k1, rfl, hk1, hk1', hg1⟩ := T1c
  obtain ⟨A2, k2, rfl, hk2, hk2', hg2⟩ := T2c
  unfold maxLen at hk1' hk2'
  have HG1 := Lib.hid hg1
  have HG2 := Lib.hid hg2
  clear hg1 hg2
  go_wp2
  go_loopw [48] (fun iv wr => ∃ k : Nat, k ≤ L.length ∧ iv = .int .i64 (k : Nat) ∧ Hid (Below w3.heap.size w3 wr)) (fun iv _ => L.length - (intOf iv).toNat)
  case atStart => exact ⟨0, by omega, rfl, Below.refl _ _⟩
  case round =>
    obtain ⟨k, hk, rfl, hB⟩ := hrel
    by_cases hlt : k < L.length
    · obtain ⟨x, hx⟩ : ∃ x, L[k]? = some x := ⟨_, List.getElem?_eq_getElem hlt⟩
      obtain ⟨g1, rfl, G1⟩ := HG1.out (by omega)
      obtain ⟨g2, rfl, G2⟩ := HG2.out (by omega)
      have G1' := G1.next hB.out
      have hbx := new_below wr (.cells #[.int .i64 (x.kind : Nat), .string ⟨x.text.toArray⟩, .int .i64 x.n, .int .i64 (x.line : Nat), .int .i64 (x.col : Nat)] 35)
      have G2' := (G2.next hB.out).next hbx
      obtain ⟨c0, c1, c2, c3, c4⟩ := G1'.get hx
      obtain ⟨d0, d1, d2, d3, d4⟩ := G2'.get hx
      have hg1 := G1'.1
      have hg2 := (G2.next hB.out).1
      have hB2 := Lib.hid (on2 hB.out hbx)
      clear G1 G2 G1' G2' hB hbx hx
      go_wp2
      go_quiet (fail)
      go_wp2
      go_roundw
      case rel => exact ⟨k + 1, by omega, by go_num, on2 hB2.out ⟨rfl, rfl, rfl, Nat.le_refl _, fun _ _ => rfl⟩⟩
      case measure => simp [intOf]; omega
    · obtain rfl : k = L.length := by omega
      have T1e := hT1.out.next hB.out
      have B4 := on2 B3 hB.out
      have J1 := JN _ wr T1e
      have T2e := hT2.out.next hB.out
      go_wp2_with fail
      with_reducible refine J1.mono ?_
      rintro e w4 ⟨rfl, b4⟩
      have J2 := RJ _ w4 (T2e.next b4)
      have B5 := on2 B4 b4
      go_wp2_with fail
      with_reducible refine J2.mono ?_
      rintro e w5 ⟨rfl, b5⟩
      have B6 := on2 B5 b5
      go_wp2
      go_ret
      exact ⟨by simp, B6⟩
/-! ### the row -/
open Go.ChangeShapes Go.WideShapes Go.ChangeAt
theorem lifted (os : Os) (started : os.Started) (H : Type) (enc : TypeId × Value → H) :
    ReturnsInHanded {} Tryd.checked os 3 .any (fun w args => (Rows.lexReadsSpec.pre enc Tryd.prog Tryd.f3 [] false w args ∧ laidMetH Tryd.prog laidL w) ∧ sizedMet enc Tryd.prog Tryd.f3 (OpenSpec.ofChange Rows.lexReadsSpec) false w args)
      (Rows.lexReadsSpec.post enc Tryd.prog Tryd.f3 false true false false) := by
  refine returnsInHanded_of_change_and (C := Tryd.checked) (X := fun w _ => laidMetH Tryd.prog laidL w) (fun _ _ _ hh h => h.of_heap hh) own started (by kernel_rfl) Tryd.func3
    (ChangeSpec.witness_shaped (enc := enc) (C := Tryd.checked) (os := os) (X := fun w _ => laidMetH Tryd.prog laidL w) false (World.laidAll Tryd.prog os laidL) #[.string ⟨#[]⟩] 8 (World.laidAll_os _ _ _) (start_shaped os) (by kernel_rfl) (by kernel_rfl) (by kernel_rfl) (start_met os _)) ?_
  intro W base args ds gs before hval0 hW _ hsz0 hL _
  have hval : ∀ (j : Nat) t v, Tryd.f3.params[j]? = some t → args[j]? = some v → Value.okWide Tryd.prog W .any base t v := hval0
  have hW' := hW
  obtain ⟨p, q, hA0, hV, rfl, hfz, hnd⟩ := hW
  have hA : DataW.TrodAll enc Tryd.prog W 0 (fun _ => true) true Tryd.f3.params.toList args.toList ds p := hA0
  rw [Tryd.params3] at hA hval
  obtain ⟨v0, vs0, d0, ds0, p0, q0, hargs, rfl, rfl, h0, r0⟩ := trodAll_cons hA
  obtain ⟨rfl, rfl, rfl⟩ := trodAll_nil r0
  obtain rfl : args = #[v0] := by cases args; simp_all
  obtain ⟨rfl, rfl⟩ := trodVars_none hV
  have k0 := h0
  have lt0 : ∀ x ∈ p0, x.block < W.heap.size := by obtain ⟨m, hm⟩ := k0; exact DataW.trod_lt m _ _ _ hm
  obtain ⟨s0, rfl, rfl, _, _⟩ := Go.ChangeMaps.open_string Tryd.underlying9 (hval 0 9 v0 rfl rfl) h0
  have ss0 : s0.size ≤ 281474976710656 := by
    have hz := sized_string hsz0 (j := 0) (t := 9) (bytes := s0.data.toList) (by rw [Tryd.params3]; rfl) rfl
    have hr : reachBytes < 2 ^ 47 := reachBytes_lt
    rw [← Lib.size_eq] at hz
    omega
  clear hA0 hval0
  refine (walk s0 ss0 W  (libOk_of_laid hL)).mono fun e W' ⟨he, bel⟩ => ?_
  subst he
  exact ⟨_, rfl, _, _, _, [], _, [], hW', trodAll_mk1 (shut_bool Tryd.underlying4 _), (trodAll_cons_mk (Below.trod laidOut (by kernel_rfl) (of_decide_eq_true (by kernel_rfl)) k0 bel lt0) trodAll_mk0), rfl, bel.frame _, fun h => by cases h⟩

theorem over : Rows.lexReadsRow.holds Tryd.pinned (OpenSpec.ofChange Rows.lexReadsSpec) :=
  OpenClaim.holds_of_wide 3 Tryd.f3 rfl rfl rfl rfl rfl rfl rfl ⟨rfl, rfl, rfl, rfl, rfl⟩ rfl rfl rfl rfl rfl (by kernel_rfl) Tryd.func3 (by kernel_rfl)
    (of_decide_eq_true (by kernel_rfl)) (by unfold Func.isWrapper; first | (rw [if_pos (by decide +kernel)]; kernel_rfl) | (rw [if_neg (by decide +kernel)]; exact ⟨rfl, rfl⟩))
    (fun os started H enc _ => lifted os started H enc)

theorem card : Rows.LexReadsCardSaid :=
  Claim7.holds_tied_plain_at .later [] [.data, .data, .data, .data, .sentinel, .sentinel, .pinned] true _ true
    over (fun _ h => by cases h) (by kernel_rfl) (fun _ h => by cases h) lexReads_row_tie rfl ⟨rfl, rfl⟩ (by kernel_rfl) rfl
    (fun f fn hf hfn => by
      obtain rfl : f = 3 := Option.some.inj ((show Tryd.prog.funcNamed Rows.lexReadsRow.func = some 3 by kernel_rfl).symm.trans hf) |>.symm
      obtain rfl : fn = Tryd.f3 := (Option.some.inj (Tryd.func3.symm.trans hfn)).symm
      exact ⟨by kernel_rfl, fun j t ht => by
        rw [Tryd.params3] at ht
        have hm : t ∈ [9] := by simpa using Array.mem_of_getElem? ht
        have hall : ([9].all fun u => !Tryd.prog.wantsStandIn u) = true := by kernel_rfl
        exact (show Tryd.prog.wantsStandIn t = false by simpa using List.all_eq_true.1 hall t hm)⟩)
    (by kernel_rfl)

end Go.Proofs.YtmiibffbakbklaaDoor.lexReads
namespace Go.Proofs.YtmiibffbakbklaaDoor
theorem lexReads_holds : Rows.LexReadsCardSaid := lexReads.card
#print axioms lexReads_holds
end Go.Proofs.YtmiibffbakbklaaDoor
