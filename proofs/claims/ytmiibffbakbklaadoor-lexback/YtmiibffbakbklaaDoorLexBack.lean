/-
  LexBack: of every text that is lexed, what is joined of its tokens is lexed to these tokens again, but for their places (or is longer than a text may be, and that is told); of a text that is not lexed there are no tokens. For every text, wherever it lies; under the row's own condition on the listed variables of Go's library.
-/
import Derived.Test.YtmiibffbakbklaaDoorLexFrame
import Derived.Test.YtmiibffbakbklaaDoorLexJoinMath
namespace Go.Proofs.YtmiibffbakbklaaDoor.lexBack
set_option maxRecDepth 100000
open Go.RowKit Go.Proofs.YtmiibffbakbklaaDoor

/-- What stands in a round: the first list, whole; the second one from the k-th token on. -/
structure BackAt (gl gm : Nat) (L M : List Tk) (k : Nat) (w wr : World) : Prop where
  mk ::
  l : ToksAt wr gl L
  m : ∀ i x, k ≤ i → M[i]? = some x → wr.cell? ⟨gm, i * 5, none⟩ = some (.int .i64 (x.kind : Nat)) ∧ wr.cell? ⟨gm, i * 5 + 1, none⟩ = some (.string ⟨x.text.toArray⟩) ∧ wr.cell? ⟨gm, i * 5 + 2, none⟩ = some (.int .i64 x.n) ∧ wr.cell? ⟨gm, i * 5 + 3, none⟩ = some (.int .i64 (x.line : Nat)) ∧ wr.cell? ⟨gm, i * 5 + 4, none⟩ = some (.int .i64 (x.col : Nat))
  f : ∀ j, wr.frozen? ⟨gm, j, none⟩ = false
  ne : gl ≠ gm
  lt : gm < wr.heap.size
  bel : Below w.heap.size w wr
  ge : w.heap.size ≤ gm
theorem lexP_long {l : List UInt8} (h : 1048576 < l.length) : lexP l = Rs.bad 1 1 7 := by unfold lexP; exact if_pos h
theorem lexP_short {l : List UInt8} (h : ¬ 1048576 < l.length) : lexP l = lx l 1 1 false := by unfold lexP; exact if_neg h
theorem BackAt.drew {gl gm : Nat} {L M : List Tk} {k : Nat} {w wr : World} (h : BackAt gl gm L M k w wr) (n : Nat) : BackAt gl gm L M k w (wr.drewN n) :=
  ⟨⟨h.l.1, fun j x hx => h.l.2 j x hx⟩, fun i x hi hx => h.m i x hi hx, fun j => h.f j, h.ne, h.lt, ⟨h.bel.os, h.bel.tape, h.bel.output, h.bel.size, h.bel.block⟩, h.ge⟩
theorem BackAt.step {gl gm : Nat} {L M : List Tk} {k : Nat} {w wr : World} (h : BackAt gl gm L M k w wr) (u v : Value) : BackAt gl gm L M (k + 1) w ((wr.setCell ⟨gm, k * 5 + 3, none⟩ u).setCell ⟨gm, k * 5 + 4, none⟩ v) := by
  have hl := fun j => World.cell?_setCell_other (wr.setCell ⟨gm, k * 5 + 3, none⟩ u) ⟨gm, k * 5 + 4, none⟩ ⟨gl, j, none⟩ v (fun e => h.ne (by injection e with e1 e2 e3; exact e1.symm))
  have hl2 := fun j => World.cell?_setCell_other wr ⟨gm, k * 5 + 3, none⟩ ⟨gl, j, none⟩ u (fun e => h.ne (by injection e with e1 e2 e3; exact e1.symm))
  have hm : ∀ j, k * 5 + 4 < j → ((wr.setCell ⟨gm, k * 5 + 3, none⟩ u).setCell ⟨gm, k * 5 + 4, none⟩ v).cell? ⟨gm, j, none⟩ = wr.cell? ⟨gm, j, none⟩ := fun j hj =>
    (World.cell?_setCell_other _ ⟨gm, k * 5 + 4, none⟩ ⟨gm, j, none⟩ v (fun e => by injection e with e1 e2 e3; omega)).trans (World.cell?_setCell_other _ ⟨gm, k * 5 + 3, none⟩ ⟨gm, j, none⟩ u (fun e => by injection e with e1 e2 e3; omega))
  refine ⟨⟨by simp; exact h.l.1, fun j x hx => (hl j).trans ((hl2 j).trans (h.l.2 j x hx))⟩, fun i x hi hx => ?_, fun j => by simp [go_sem, h.f j], h.ne, by simp; exact h.lt, ?_, h.ge⟩
  · obtain ⟨h0, h1, h2, h3, h4⟩ := h.m i x (by omega) hx
    exact ⟨(hm _ (by omega)).trans h0, (hm _ (by omega)).trans h1, (hm _ (by omega)).trans h2, (hm _ (by omega)).trans h3, (hm _ (by omega)).trans h4⟩
  · exact Below.setCell (Below.setCell h.bel h.ge _) h.ge _

set_option maxHeartbeats 4000000 in
theorem walk (s : ByteArray) (_hs : s.size ≤ 281474976710656) (w : World) (hL : LibOk w) :
    Calls Tryd.prog 4 #[.string s] w fun e w' => e = .returned (.bool true) ∧ Below w.heap.size w w' := by
  have LX := fun W hW => lex_any s W hW
  have WK := fun W hW => wakes_any W hW
  by_cases he : (lexP s.data.toList).err = 0
  · have hsum := lexP_sum s.data.toList
    have hok := lexP_ok he
    have hjl := jnf_le (lexP s.data.toList).toks [] (by simp)
    have hgood : ∃ ts e, (lexP s.data.toList).toks = ts ++ [e] ∧ (∀ x ∈ ts, GoodT x) ∧ isEnd e := by
      rw [hok.1] at he ⊢
      obtain ⟨ts, e, h1, h2, h3, _⟩ := lx_good _ _ (Nat.le_refl _) 1 1 false he
      exact ⟨ts, e, h1, h2, h3⟩
    obtain ⟨ts, e0, ht, hg1, hg2⟩ := hgood
    have hne : 0 < (lexP s.data.toList).toks.length := by rw [ht]; simp
    have hback : ∀ R, R = lexP (jnf [] (lexP s.data.toList).toks) → (1048576 < (jnf [] (lexP s.data.toList).toks).length ∧ R.err = 7) ∨ ((jnf [] (lexP s.data.toList).toks).length ≤ 1048576 ∧ R.err = 0 ∧ R.toks.map bare = (lexP s.data.toList).toks.map bare) := by
      rintro R rfl
      by_cases hbig : 1048576 < (jnf [] (lexP s.data.toList).toks).length
      · left
        exact ⟨hbig, by rw [lexP_long hbig]; rfl⟩
      · right
        refine ⟨by omega, ?_⟩
        have h1 := (lex_joined ts e0 hg1 hg2 1 1).1
        rw [← ht] at h1
        rw [lexP_short hbig]
        exact ⟨h1.1, h1.2.1⟩
    have LT := fun W hW => lex_any ⟨(jnf [] (lexP s.data.toList).toks).toArray⟩ W hW
    have hTs := ba_size (jnf [] (lexP s.data.toList).toks)
    rw [ba_list] at LT
    have hb := hback _ rfl
    clear hback
    generalize hR1 : lexP (jnf [] (lexP s.data.toList).toks) = R2 at *
    rw [← hTs] at hb
    have JN := fun v W hW => join_any (lexP s.data.toList).toks v (by omega) (by omega) W hW
    generalize (⟨(jnf [] (lexP s.data.toList).toks).toArray⟩ : ByteArray) = T at *
    generalize hR : lexP s.data.toList = R at *
    obtain ⟨L, pl1, pc1, er⟩ := R
    obtain ⟨M, pl2, pc2, er2⟩ := R2
    simp only at *
    subst he
    have HB := Lib.hid hb
    clear hok hjl ht hg1 hg2 hR hR1 hTs hb
    go_enter Tryd.func4, Tryd.ntmps4
    go_wp2_with fail
    with_reducible refine (LX _ hL).mono ?_
    rintro e w1 ⟨v, rfl, own, b1⟩
    have hT := toks_of_own own
    have b2 := new_below w1 (.cells #[.int .i64 (pl1 : Nat), .int .i64 (pc1 : Nat)] 24)
    have T2 := hT.next b2
    have L2 := (hL.below b1).below b2
    have B2 := b1.trans (b2.mono b1.size)
    clear own LX hT b2 b1
    go_wp2_with fail
    with_reducible refine (WK _ L2).mono ?_
    rintro e w3 ⟨rfl, b3⟩
    have T3 := T2.next b3
    have L3 := L2.below b3
    have B3 := B2.trans (b3.mono (by have := B2.size; exact this))
    clear T2 L2 B2 b3 WK
    go_wp2_with fail
    with_reducible refine (JN _ _ T3).mono ?_
    rintro e w4 ⟨rfl, b4⟩
    have T4 := T3.next b4
    have L4 := L3.below b4
    have B4 := B3.trans (b4.mono (by have := B3.size; exact this))
    clear T3 L3 B3 b4 JN
    go_wp2_with fail
    with_reducible refine (LT _ L4).mono ?_
    rintro e w5 ⟨v2, rfl, own2, b5⟩
    rcases HB.out with ⟨hbig, rfl⟩ | ⟨hsm, rfl, hbare⟩
    · have hbig' : (1048576 : Int) < (T.size : Int) := by omega
      have B5 := B4.trans (b5.mono (by have := B4.size; exact this))
      have B6 := B5.alloc (by have := B5.size; exact this) (.cells #[.int .i64 (pl2 : Nat), .int .i64 (pc2 : Nat)] 24)
      clear T4 own2 HB L4 LT b5 B4
      go_wp2
      go_ret
      exact ⟨rfl, B6⟩
    · have hlen : M.length = L.length := by
        have := congrArg List.length hbare
        simpa using this
      have hel : ∀ (k : Nat) (x : Tk), L[k]? = some x → ∃ y : Tk, M[k]? = some y ∧ y.kind = x.kind ∧ y.text = x.text ∧ y.n = x.n := by
        intro k x hx
        have h1 := congrArg (fun l => l[k]?) hbare
        simp only [List.getElem?_map, hx, Option.map_some] at h1
        cases hy : M[k]? with
        | none => rw [hy] at h1; cases h1
        | some y =>
          rw [hy] at h1
          have h2 : bare y = bare x := Option.some.inj h1
          unfold bare at h2
          injection h2 with h3 h4
          injection h4 with h5 h6
          exact ⟨y, rfl, h3, h5, h6⟩
      have HE := Lib.hid hel
      obtain ⟨A1, cap1, rfl, hk1, hk2, hg⟩ := T4
      obtain ⟨gl, rfl, hG⟩ := hg hne
      obtain ⟨A2, cap2, rfl, hk3, hk4, hg2⟩ := toks_of_own own2
      obtain ⟨gm, rfl, hG2⟩ := hg2 (by show 0 < M.length; omega)
      have hfz := fun j => own2.frozenAt j
      have hgm := (own2.lt gm rfl).1
      have hgl := hG.1
      have hB4s := B4.size
      have b6 := new_below w5 (.cells #[.int .i64 0, .int .i64 0] 24)
      have hAt : Hid (BackAt gl gm L M 0 w (w5.alloc (.cells #[.int .i64 (pl2 : Nat), .int .i64 (pc2 : Nat)] 24))) := by
        have b6 := new_below w5 (.cells #[.int .i64 (pl2 : Nat), .int .i64 (pc2 : Nat)] 24)
        refine ⟨(hG.next b5).next b6, fun i x _ hx => (hG2.next b6).get hx, fun j => ?_, by omega, ?_, ?_, by omega⟩
        · rw [b6.frozen (by exact hG2.1)]
          exact hfz j
        · have := hG2.1
          simp
          omega
        · exact (B4.trans (b5.mono (by have := B4.size; exact this))).alloc (by have := (B4.trans (b5.mono (by have := B4.size; exact this))).size; exact this) _
      unfold maxLen at hk2 hk4
      have hsm' : (T.size : Int) ≤ 1048576 := by omega
      clear hg hg2 own2 hG hG2 hfz b6 b5 B4 L4 LT HB hbare hel
      go_wp2
      go_loopw [53] (fun iv wr => ∃ k : Nat, k ≤ L.length ∧ iv = .int .i64 (k : Nat) ∧ Hid (BackAt gl gm L M k w wr)) (fun iv _ => L.length - (intOf iv).toNat)
      case atStart => exact ⟨0, by omega, rfl, hAt⟩
      case round =>
        obtain ⟨k, hk, rfl, hA⟩ := hrel
        by_cases hlt : k < L.length
        · obtain ⟨x, hx⟩ : ∃ x, L[k]? = some x := ⟨_, List.getElem?_eq_getElem hlt⟩
          obtain ⟨y, hy, e1, e2, e3⟩ := HE.out k x hx
          obtain ⟨c0, c1, c2, c3, c4⟩ := hA.out.l.get hx
          obtain ⟨d0, d1, d2, d3, d4⟩ := hA.out.m k y (Nat.le_refl _) hy
          rw [e1] at d0
          rw [e2] at d1
          rw [e3] at d2
          have f3 := hA.out.f (k * 5 + 3)
          have f4 := hA.out.f (k * 5 + 4)
          have hne2 := hA.out.ne
          have hlt2 := hA.out.lt
          have hll := hA.out.l.1
          have hS := Lib.hid (hA.out.step (.int .i64 (x.line : Nat)) (.int .i64 (x.col : Nat)))
          clear hA e1 e2 e3 hx hy
          go_wp2
          go_quiet (fail)
          go_wp2
          go_roundw
          case rel => exact ⟨k + 1, by omega, by go_num, hS.out.drew _⟩
          case measure => simp [intOf]; omega
        · obtain rfl : k = L.length := by omega
          have BB := hA.out.bel
          go_wp2
          go_ret
          exact ⟨rfl, BB⟩
  · have hnil := lexP_bad he
    generalize lexP s.data.toList = R at *
    obtain ⟨L, pl1, pc1, er⟩ := R
    simp only at *
    subst hnil
    have he' : ¬ ((er : Nat) : Int) = 0 := by omega
    go_enter Tryd.func4, Tryd.ntmps4
    go_wp2_with fail
    with_reducible refine (LX _ hL).mono ?_
    rintro e w1 ⟨v, rfl, own, b1⟩
    obtain ⟨A1, cap1, rfl, hk1, hk2, hg⟩ := toks_of_own own
    have b2 := new_below w1 (.cells #[.int .i64 (pl1 : Nat), .int .i64 (pc1 : Nat)] 24)
    have L2 := (hL.below b1).below b2
    have B2 := b1.trans (b2.mono b1.size)
    clear own LX b2 b1 hg
    go_wp2_with fail
    with_reducible refine (WK _ L2).mono ?_
    rintro e w3 ⟨rfl, b3⟩
    have L3 := L2.below b3
    have B3 := B2.trans (b3.mono (by have := B2.size; exact this))
    clear L2 B2 b3
    go_wp2_with fail
    with_reducible refine (WK _ L3).mono ?_
    rintro e w4 ⟨rfl, b4⟩
    have B4 := B3.trans (b4.mono (by have := B3.size; exact this))
    clear L3 B3 b4 WK
    go_wp2
    go_ret
    exact ⟨by simp, B4⟩
/-! ### the row -/
open Go.ChangeShapes Go.WideShapes Go.ChangeAt
theorem lifted (os : Os) (started : os.Started) (H : Type) (enc : TypeId × Value → H) :
    ReturnsInHanded {} Tryd.checked os 4 .any (fun w args => (Rows.lexBackSpec.pre enc Tryd.prog Tryd.f4 [] false w args ∧ laidMetH Tryd.prog laidL w) ∧ sizedMet enc Tryd.prog Tryd.f4 (OpenSpec.ofChange Rows.lexBackSpec) false w args)
      (Rows.lexBackSpec.post enc Tryd.prog Tryd.f4 false true false false) := by
  refine returnsInHanded_of_change_and (C := Tryd.checked) (X := fun w _ => laidMetH Tryd.prog laidL w) (fun _ _ _ hh h => h.of_heap hh) own started (by kernel_rfl) Tryd.func4
    (ChangeSpec.witness_shaped (enc := enc) (C := Tryd.checked) (os := os) (X := fun w _ => laidMetH Tryd.prog laidL w) false (World.laidAll Tryd.prog os laidL) #[.string ⟨#[]⟩] 8 (World.laidAll_os _ _ _) (start_shaped os) (by kernel_rfl) (by kernel_rfl) (by kernel_rfl) (start_met os _)) ?_
  intro W base args ds gs before hval0 hW _ hsz0 hL _
  have hval : ∀ (j : Nat) t v, Tryd.f4.params[j]? = some t → args[j]? = some v → Value.okWide Tryd.prog W .any base t v := hval0
  have hW' := hW
  obtain ⟨p, q, hA0, hV, rfl, hfz, hnd⟩ := hW
  have hA : DataW.TrodAll enc Tryd.prog W 0 (fun _ => true) true Tryd.f4.params.toList args.toList ds p := hA0
  rw [Tryd.params4] at hA hval
  obtain ⟨v0, vs0, d0, ds0, p0, q0, hargs, rfl, rfl, h0, r0⟩ := trodAll_cons hA
  obtain ⟨rfl, rfl, rfl⟩ := trodAll_nil r0
  obtain rfl : args = #[v0] := by cases args; simp_all
  obtain ⟨rfl, rfl⟩ := trodVars_none hV
  have k0 := h0
  have lt0 : ∀ x ∈ p0, x.block < W.heap.size := by obtain ⟨m, hm⟩ := k0; exact DataW.trod_lt m _ _ _ hm
  obtain ⟨s0, rfl, rfl, _, _⟩ := Go.ChangeMaps.open_string Tryd.underlying9 (hval 0 9 v0 rfl rfl) h0
  have ss0 : s0.size ≤ 281474976710656 := by
    have hz := sized_string hsz0 (j := 0) (t := 9) (bytes := s0.data.toList) (by rw [Tryd.params4]; rfl) rfl
    have hr : reachBytes < 2 ^ 47 := reachBytes_lt
    rw [← Lib.size_eq] at hz
    omega
  clear hA0 hval0
  refine (walk s0 ss0 W  (libOk_of_laid hL)).mono fun e W' ⟨he, bel⟩ => ?_
  subst he
  exact ⟨_, rfl, _, _, _, [], _, [], hW', trodAll_mk1 (shut_bool Tryd.underlying4 _), (trodAll_cons_mk (Below.trod laidOut (by kernel_rfl) (of_decide_eq_true (by kernel_rfl)) k0 bel lt0) trodAll_mk0), rfl, bel.frame _, fun h => by cases h⟩

theorem over : Rows.lexBackRow.holds Tryd.pinned (OpenSpec.ofChange Rows.lexBackSpec) :=
  OpenClaim.holds_of_wide 4 Tryd.f4 rfl rfl rfl rfl rfl rfl rfl ⟨rfl, rfl, rfl, rfl, rfl⟩ rfl rfl rfl rfl rfl (by kernel_rfl) Tryd.func4 (by kernel_rfl)
    (of_decide_eq_true (by kernel_rfl)) (by unfold Func.isWrapper; first | (rw [if_pos (by decide +kernel)]; kernel_rfl) | (rw [if_neg (by decide +kernel)]; exact ⟨rfl, rfl⟩))
    (fun os started H enc _ => lifted os started H enc)

theorem card : Rows.LexBackCardSaid :=
  Claim7.holds_tied_plain_at .later [] [.data, .data, .data, .data, .sentinel, .sentinel, .pinned] true _ true
    over (fun _ h => by cases h) (by kernel_rfl) (fun _ h => by cases h) lexBack_row_tie rfl ⟨rfl, rfl⟩ (by kernel_rfl) rfl
    (fun f fn hf hfn => by
      obtain rfl : f = 4 := Option.some.inj ((show Tryd.prog.funcNamed Rows.lexBackRow.func = some 4 by kernel_rfl).symm.trans hf) |>.symm
      obtain rfl : fn = Tryd.f4 := (Option.some.inj (Tryd.func4.symm.trans hfn)).symm
      exact ⟨by kernel_rfl, fun j t ht => by
        rw [Tryd.params4] at ht
        have hm : t ∈ [9] := by simpa using Array.mem_of_getElem? ht
        have hall : ([9].all fun u => !Tryd.prog.wantsStandIn u) = true := by kernel_rfl
        exact (show Tryd.prog.wantsStandIn t = false by simpa using List.all_eq_true.1 hall t hm)⟩)
    (by kernel_rfl)

end Go.Proofs.YtmiibffbakbklaaDoor.lexBack
namespace Go.Proofs.YtmiibffbakbklaaDoor
theorem lexBack_holds : Rows.LexBackCardSaid := lexBack.card
#print axioms lexBack_holds
end Go.Proofs.YtmiibffbakbklaaDoor
