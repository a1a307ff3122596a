/-
  ShowTidy: every text, as its instance is printed (cut to 20000 bytes), is the document's, or its error. For every text, wherever it lies; under the row's own condition on the listed variables of Go's library and of the project.
-/
import Derived.Test.YtbadingdklenhaaGreatDoorShowTdM
import Derived.Test.YtbadingdklenhaaGreatDoorShowDigitsM
import Derived.Test.YtbadingdklenhaaGreatDoorParseRefW3M
import Derived.SevenTiedAt
namespace Go.Proofs.YtbadingdklenhaaGreatDoor.showTidy
set_option maxRecDepth 100000
open Go.RowKit Go.Proofs.YtbadingdklenhaaGreatDoor

/-- What stands all along. -/
structure GY (w W : World) : Prop where
  mk ::
  lib : LibOk W
  wrd : WordsOk W
  tab : TabOk W
  be : Below w.heap.size w W
theorem GY.next {w W W' : World} (h : GY w W) (hb : Below W.heap.size W W') : GY w W' := ⟨h.lib.below hb, h.wrd.next hb, h.tab.next hb, h.be.trans (hb.mono h.be.size)⟩
/-- Of one text. -/
theorem td_cases (l : List UInt8) : ((parseL l).err = 0 ∧ tdE l = prE (parseL l).inst ∧ tdT l = prT (parseL l).inst) ∨ (¬ (parseL l).err = 0 ∧ tdE l = (parseL l).err ∧ tdT l = []) := by
  unfold tdE tdT
  by_cases h : (parseL l).err = 0
  · rw [if_pos h, if_pos h]; exact .inl ⟨h, rfl, rfl⟩
  · rw [if_neg h, if_neg h]; exact .inr ⟨h, rfl, rfl⟩
set_option maxHeartbeats 4000000 in
theorem walk (s : ByteArray) (hs : s.size ≤ 281474976710656) (w : World) (hL : LibOk w) (hW : WordsOk w) (hT : TabOk w) :
    Calls Tryz.prog 4 #[.string s] w fun e w' => e = .returned (.bool true) ∧ Below w.heap.size w w' := by
  have TD := fun x => tidy_any x w hL hW hT
  have RP := fun x W => rparse_any x W
  have PR := fun I v W h => rprint_any (fun _ => True) (fun _ => True) I v W h
  have WK := fun W a b c => wakes_any W a b c
  have GA := Lib.hid (show GY w w from ⟨hL, hW, hT, Below.refl _ _⟩)
  unfold IsPs at RP
  clear hL hW hT
  go_enter Tryz.func4, Tryz.ntmps4
  go_wp2_with fail
  generalize ByteArray.extract s _ _ = x
  have htd := td_cases x.data.toList
  have TD1 := TD x
  have RP1 := RP x
  generalize tdE x.data.toList = te at *
  obtain ⟨tt, htt⟩ : ∃ q, tdT x.data.toList = q := ⟨_, rfl⟩
  rw [htt] at htd TD1
  generalize parseL x.data.toList = PS at *
  obtain ⟨I, l, c, er⟩ := PS
  simp only at *
  have HTD := Lib.hid htd
  clear TD RP htt htd
  with_reducible refine TD1.mono ?_
  rintro e w1 ⟨rfl, b1⟩
  have G1 := Lib.hid (GA.out.next b1)
  clear b1 GA TD1
  go_wp2_with fail
  with_reducible refine (RP1 _).mono ?_
  rintro e w2 ⟨v, rfl, hJ, b2⟩
  obtain ⟨P0, m0, K0, P1, m1, K1, P2, m2, K2, rfl⟩ := InV hJ
  have nb : Below w2.heap.size w2 ((w2.alloc (.cells #[.int .i64 I.kind, .int .i64 I.cap, .slice P0 m0 K0, .slice P1 m1 K1, .int .i64 I.size, .slice P2 m2 K2] 36)).alloc (.cells #[.int .i64 (l : Nat), .int .i64 (c : Nat)] 47)) := (new_below _ _).alloc (by simp) _
  have g3 := (G1.out.next b2).next nb
  have i3 := (hJ.next nb).imp (F' := fun _ => True) (G' := fun _ => True) (fun _ _ => trivial) (fun _ _ => trivial)
  have v3 := (iblk_new w2 (.int .i64 I.kind) (.int .i64 I.cap) (.slice P0 m0 K0) (.slice P1 m1 K1) (.int .i64 I.size) (.slice P2 m2 K2) 36).next (new_below _ (.cells #[.int .i64 (l : Nat), .int .i64 (c : Nat)] 47))
  have G3 := Lib.hid g3
  have I3 := Lib.hid i3
  clear g3 i3 v3 nb hJ b2 G1 RP1
  rcases HTD.out with ⟨h1, h2, h3⟩ | ⟨h1, h2, h3⟩
  · clear HTD
    subst h1 h2 h3
    have PR1 := PR I
    clear PR
    generalize prE I = pe at *
    obtain ⟨pt, hpt⟩ : ∃ q, (⟨(prT I).toArray⟩ : ByteArray) = q := ⟨_, rfl⟩
    rw [hpt] at PR1 ⊢
    clear hpt
    go_wp2_with fail
    with_reducible refine (PR1 _ _ I3.out).mono ?_
    rintro e w4 ⟨rfl, b4⟩
    have G4 := Lib.hid (G3.out.next b4)
    clear b4 G3 I3 PR1
    go_wp2_with fail
    with_reducible refine (WK _ G4.out.lib G4.out.wrd G4.out.tab).mono ?_
    rintro e w5 ⟨rfl, b5⟩
    have G5 := Lib.hid (G4.out.next b5)
    clear b5 G4 WK
    go_wp2
    go_ret
    exact ⟨rfl, G5.out.be⟩
  · clear HTD
    subst h2 h3
    have he2 : ¬ (er : Int) = 0 := by omega
    clear PR I3
    go_wp2_with fail
    with_reducible refine (WK _ G3.out.lib G3.out.wrd G3.out.tab).mono ?_
    rintro e w5 ⟨rfl, b5⟩
    have G5 := Lib.hid (G3.out.next b5)
    clear b5 G3 WK
    go_wp2
    go_ret
    exact ⟨rfl, G5.out.be⟩

/-! ### the row -/
open Go.ChangeShapes Go.WideShapes Go.ChangeAt
theorem lifted (os : Os) (started : os.Started) (H : Type) (enc : TypeId × Value → H) :
    ReturnsInHanded {} Tryz.checked os 4 .any (fun w args => (Rows.showTidySpec.pre enc Tryz.prog Tryz.f4 [] false w args ∧ laidMetH Tryz.prog laidL w) ∧ sizedMet enc Tryz.prog Tryz.f4 (OpenSpec.ofChange Rows.showTidySpec) false w args)
      (Rows.showTidySpec.post enc Tryz.prog Tryz.f4 false true false false) := by
  refine returnsInHanded_of_change_and (C := Tryz.checked) (X := fun w _ => laidMetH Tryz.prog laidL w) (fun _ _ _ hh h => h.of_heap hh) own started (by kernel_rfl) Tryz.func4
    (ChangeSpec.witness_shaped (enc := enc) (C := Tryz.checked) (os := os) (X := fun w _ => laidMetH Tryz.prog laidL w) false (World.laidAll Tryz.prog os laidL) #[.string ⟨#[]⟩] 8 (World.laidAll_os _ _ _) (start_shaped os) (by kernel_rfl) (by kernel_rfl) (by kernel_rfl) (start_met os _)) ?_
  intro W base args ds gs before hval0 hW _ hsz0 hL _
  have hval : ∀ (j : Nat) t v, Tryz.f4.params[j]? = some t → args[j]? = some v → Value.okWide Tryz.prog W .any base t v := hval0
  have hW' := hW
  obtain ⟨p, q, hA0, hV, rfl, hfz, hnd⟩ := hW
  have hA : DataW.TrodAll enc Tryz.prog W 0 (fun _ => true) true Tryz.f4.params.toList args.toList ds p := hA0
  rw [Tryz.params4] at hA hval
  obtain ⟨v0, vs0, d0, ds0, p0, q0, hargs, rfl, rfl, h0, r0⟩ := trodAll_cons hA
  obtain ⟨rfl, rfl, rfl⟩ := trodAll_nil r0
  obtain rfl : args = #[v0] := by cases args; simp_all
  obtain ⟨rfl, rfl⟩ := trodVars_none hV
  have k0 := h0
  have lt0 : ∀ x ∈ p0, x.block < W.heap.size := by obtain ⟨m, hm⟩ := k0; exact DataW.trod_lt m _ _ _ hm
  obtain ⟨s0, rfl, rfl, _, _⟩ := Go.ChangeMaps.open_string Tryz.underlying9 (hval 0 9 v0 rfl rfl) h0
  have ss0 : s0.size ≤ 281474976710656 := by
    have hz := sized_string hsz0 (j := 0) (t := 9) (bytes := s0.data.toList) (by rw [Tryz.params4]; rfl) rfl
    have hr : reachBytes < 2 ^ 47 := reachBytes_lt
    rw [← Lib.size_eq] at hz
    omega
  clear hA0 hval0
  refine (walk s0 ss0 W  (libOk_of_laid hL) (words_of_laid hL) (tab_of_laid hL)).mono fun e W' ⟨he, bel⟩ => ?_
  subst he
  exact ⟨_, rfl, _, _, _, [], _, [], hW', trodAll_mk1 (shut_bool Tryz.underlying4 _), (trodAll_cons_mk (Below.trod laidOut (by kernel_rfl) (of_decide_eq_true (by kernel_rfl)) k0 bel lt0) trodAll_mk0), rfl, bel.frame _, fun h => by cases h⟩

theorem over : Rows.showTidyRow.holds Tryz.pinned (OpenSpec.ofChange Rows.showTidySpec) :=
  OpenClaim.holds_of_wide 4 Tryz.f4 rfl rfl rfl rfl rfl rfl rfl ⟨rfl, rfl, rfl, rfl, rfl⟩ rfl rfl rfl rfl rfl (by kernel_rfl) Tryz.func4 (by kernel_rfl)
    (of_decide_eq_true (by kernel_rfl)) (by unfold Func.isWrapper; first | (rw [if_pos (by decide +kernel)]; kernel_rfl) | (rw [if_neg (by decide +kernel)]; exact ⟨rfl, rfl⟩))
    (fun os started H enc _ => lifted os started H enc)

theorem card : Rows.ShowTidyCardSaid :=
  Claim7.holds_tied_plain_at .later [] [.data, .data, .data, .data, .data, .sentinel, .sentinel, .pinned] true _ true
    over (fun _ h => by cases h) (by kernel_rfl) (fun _ h => by cases h) showTidy_row_tie rfl ⟨rfl, rfl⟩ (by kernel_rfl) rfl
    (fun f fn hf hfn => by
      obtain rfl : f = 4 := Option.some.inj ((show Tryz.prog.funcNamed Rows.showTidyRow.func = some 4 by kernel_rfl).symm.trans hf) |>.symm
      obtain rfl : fn = Tryz.f4 := (Option.some.inj (Tryz.func4.symm.trans hfn)).symm
      exact ⟨by kernel_rfl, fun j t ht => by
        rw [Tryz.params4] at ht
        have hm : t ∈ [9] := by simpa using Array.mem_of_getElem? ht
        have hall : ([9].all fun u => !Tryz.prog.wantsStandIn u) = true := by kernel_rfl
        exact (show Tryz.prog.wantsStandIn t = false by simpa using List.all_eq_true.1 hall t hm)⟩)
    (by kernel_rfl)

end Go.Proofs.YtbadingdklenhaaGreatDoor.showTidy
namespace Go.Proofs.YtbadingdklenhaaGreatDoor
theorem showTidy_holds : Rows.ShowTidyCardSaid := showTidy.card
#print axioms showTidy_holds
end Go.Proofs.YtbadingdklenhaaGreatDoor
