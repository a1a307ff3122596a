/-
  ParseGood: whatever text is parsed, there is either an instance that may be, and no place, or a place within the text's lines, an error, and no instance. For every text, wherever it lies; under the row's own condition on the listed variables of Go's library and of the project.
-/
import Derived.Test.YtmmacijhjjjkoaaGreatDoorParseFrame
import Derived.Test.YtmmacijhjjjkoaaGreatDoorInstCheck
import Derived.Test.YtmmacijhjjjkoaaGreatDoorInstEqB
namespace Go.Proofs.YtmmacijhjjjkoaaGreatDoor.parseGood
set_option maxRecDepth 100000
open Go.RowKit Go.Proofs.YtmmacijhjjjkoaaGreatDoor

/-- What stands behind the call of Parse: the instance's variable, the place's. -/
structure GX (ab : Nat) (I : In) (A0 : Option Addr) (n0 C0 : Nat) (A1 : Option Addr) (n1 C1 : Nat) (A2 : Option Addr) (n2 C2 : Nat) (l c : Int) (w W : World) : Prop where
  mk ::
  box : IBlk ab 27 (.int .i64 I.kind) (.int .i64 I.cap) (.slice A0 n0 C0) (.slice A1 n1 C1) (.int .i64 I.size) (.slice A2 n2 C2) W
  pos : W.heap[ab + 1]? = some (.cells #[.int .i64 l, .int .i64 c] 29 (0, 0))
  lib : LibOk W
  wrd : WordsOk W
  ins : Ins (fun _ => True) (fun _ => True) W (.agg #[.int .i64 I.kind, .int .i64 I.cap, .slice A0 n0 C0, .slice A1 n1 C1, .int .i64 I.size, .slice A2 n2 C2]) I
  be : Below w.heap.size w W
section
variable {ab : Nat} {I : In} {A0 : Option Addr} {n0 C0 : Nat} {A1 : Option Addr} {n1 C1 : Nat} {A2 : Option Addr} {n2 C2 : Nat} {l c : Int} {w W W' : World}
theorem GX.next (h : GX ab I A0 n0 C0 A1 n1 C1 A2 n2 C2 l c w W) (hb : Below W.heap.size W W') : GX ab I A0 n0 C0 A1 n1 C1 A2 n2 C2 l c w W' :=
  ⟨h.box.next hb, (hb.block _ (lt_of_block h.pos)).trans h.pos, h.lib.below hb, h.wrd.next hb, h.ins.next hb, h.be.trans (hb.mono h.be.size)⟩
theorem GX.drew (h : GX ab I A0 n0 C0 A1 n1 C1 A2 n2 C2 l c w W) : GX ab I A0 n0 C0 A1 n1 C1 A2 n2 C2 l c w W.drew := h.next (Below.refl _ _).drew
theorem GX.cells (h : GX ab I A0 n0 C0 A1 n1 C1 A2 n2 C2 l c w W) : W.cell? ⟨ab + 1, 0, none⟩ = some (.int .i64 l) ∧ W.cell? ⟨ab + 1, 1, none⟩ = some (.int .i64 c) ∧ W.cell? ⟨ab, 0, none⟩ = some (.int .i64 I.kind) ∧ W.cell? ⟨ab, 1, none⟩ = some (.int .i64 I.cap) ∧ W.cell? ⟨ab, 2, none⟩ = some (.slice A0 n0 C0) ∧ W.cell? ⟨ab, 3, none⟩ = some (.slice A1 n1 C1) ∧ W.cell? ⟨ab, 4, none⟩ = some (.int .i64 I.size) ∧ W.cell? ⟨ab, 5, none⟩ = some (.slice A2 n2 C2) := by
  have h1 := h.pos
  obtain ⟨x0, x1, x2, x3, x4, x5⟩ := h.box.box
  refine ⟨?_, ?_, x0, x1, x2, x3, x4, x5⟩ <;> (unfold World.cell?; simp only [h1]; rfl)
end
set_option maxHeartbeats 4000000 in
theorem walk (s : ByteArray) (_hs : s.size ≤ 281474976710656) (w : World) (hL : LibOk w) (hW : WordsOk w) :
    Calls Tryz.prog 3 #[.string s] w fun e w' => e = .returned (.bool true) ∧ Below w.heap.size w w' := by
  have PA := parse_any s w hL hW
  have WK := fun W a b => wakes_any W a b
  have CN := fun W => Tryz.strings_Count_one s 10 W
  have hcnt : (Lib.countByte s.data.toList 10 : Int) ≤ 281474976710656 := by
    have h1 : Lib.countByte s.data.toList 10 ≤ s.data.toList.length := List.count_le_length
    rw [size_list] at h1
    omega
  have EQ := fun I J u v W a b => equal_any (fun _ => True) (fun _ => True) (fun _ => True) (fun _ => True) I J u v W a b
  have CK := fun I v W a b => check_any (fun _ => True) (fun _ => True) I v W a b
  have hgood := parseL_good s.data.toList
  change _ ∨ (_ ∧ _ ∧ _ ∧ _ ∧ (parseL s.data.toList).line ≤ 1 + Lib.countByte s.data.toList 10) at hgood
  generalize Lib.countByte s.data.toList 10 = cnt at *
  generalize parseL s.data.toList = PS at *
  obtain ⟨I, l, c, er⟩ := PS
  unfold IsPs at PA
  simp only at *
  rcases hgood with ⟨rfl, hk, rfl, rfl⟩ | ⟨her, rfl, h1, h2, h3⟩
  · clear CN EQ hcnt
    go_enter Tryz.func3, Tryz.ntmps3
    go_wp2_with fail
    with_reducible refine PA.mono ?_
    rintro e w1 ⟨v, rfl, hI, b1⟩
    obtain ⟨A0, n0, C0, A1, n1, C1, A2, n2, C2, rfl⟩ := InV hI
    have nb : Below w1.heap.size w1 ((w1.alloc (.cells #[.int .i64 I.kind, .int .i64 I.cap, .slice A0 n0 C0, .slice A1 n1 C1, .int .i64 I.size, .slice A2 n2 C2] 27)).alloc (.cells #[.int .i64 0, .int .i64 0] 29)) := (new_below _ _).alloc (by simp) _
    have hP := heap_alloc_new (w1.alloc (.cells #[.int .i64 I.kind, .int .i64 I.cap, .slice A0 n0 C0, .slice A1 n1 C1, .int .i64 I.size, .slice A2 n2 C2] 27)) (.cells #[.int .i64 0, .int .i64 0] 29)
    rw [World.size_alloc] at hP
    have hX := Lib.hid (show GX w1.heap.size I A0 n0 C0 A1 n1 C1 A2 n2 C2 0 0 w _ from ⟨(iblk_new w1 _ _ _ _ _ _ _).next (new_below _ _), hP, (hL.below b1).below nb, (hW.next b1).next nb, (hI.next nb).imp (fun _ _ => trivial) (fun _ _ => trivial), b1.trans (nb.mono b1.size)⟩)
    clear hP nb hI b1 PA
    go_wp2_with fail
    with_reducible refine (WK _ hX.out.lib hX.out.wrd).mono ?_
    rintro e w2 ⟨rfl, b2⟩
    have hX2 := Lib.hid (hX.out.next b2)
    clear hX b2 WK
    obtain ⟨p0, p1, x0, x1, x2, x3, x4, x5⟩ := hX2.out.cells
    have hlt := hX2.out.box.lt
    have hlt2 := lt_of_block hX2.out.pos
    go_wp2_with fail
    with_reducible refine (CK _ _ _ hX2.out.ins hX2.out.wrd).mono ?_
    rintro e w3 ⟨rfl, b3⟩
    rw [hk]
    have hX3 := Lib.hid (hX2.out.next b3).be
    clear hX2 b3 CK p0 p1 x0 x1 x2 x3 x4 x5
    go_wp2
    go_ret
    exact ⟨rfl, hX3.out⟩
  · have her2 : ¬ (er : Int) = 0 := by omega
    clear CK
    go_enter Tryz.func3, Tryz.ntmps3
    go_wp2_with fail
    with_reducible refine PA.mono ?_
    rintro e w1 ⟨v, rfl, hI, b1⟩
    obtain ⟨A0, n0, C0, A1, n1, C1, A2, n2, C2, rfl⟩ := InV hI
    have nb : Below w1.heap.size w1 ((w1.alloc (.cells #[.int .i64 zIn.kind, .int .i64 zIn.cap, .slice A0 n0 C0, .slice A1 n1 C1, .int .i64 zIn.size, .slice A2 n2 C2] 27)).alloc (.cells #[.int .i64 (l : Nat), .int .i64 (c : Nat)] 29)) := (new_below _ _).alloc (by simp) _
    have hP := heap_alloc_new (w1.alloc (.cells #[.int .i64 zIn.kind, .int .i64 zIn.cap, .slice A0 n0 C0, .slice A1 n1 C1, .int .i64 zIn.size, .slice A2 n2 C2] 27)) (.cells #[.int .i64 (l : Nat), .int .i64 (c : Nat)] 29)
    rw [World.size_alloc] at hP
    have hX := Lib.hid (show GX w1.heap.size zIn A0 n0 C0 A1 n1 C1 A2 n2 C2 (l : Nat) (c : Nat) w _ from ⟨(iblk_new w1 _ _ _ _ _ _ _).next (new_below _ _), hP, (hL.below b1).below nb, (hW.next b1).next nb, (hI.next nb).imp (fun _ _ => trivial) (fun _ _ => trivial), b1.trans (nb.mono b1.size)⟩)
    clear hP nb hI b1 PA
    have g1 : (1 : Int) ≤ (l : Int) := by omega
    have g2 : (1 : Int) ≤ (c : Int) := by omega
    have g3 : (l : Int) ≤ 1 + (cnt : Int) := by omega
    have d1 : decide ((1 : Int) ≤ (l : Int)) = true := by simp; omega
    have d2 : decide ((1 : Int) ≤ (c : Int)) = true := by simp; omega
    have kw : IntKind.i64.wrap (1 + (cnt : Int)) = 1 + (cnt : Int) := by rw [IntKind.wrap_i64]; omega
    have d3 : decide ((l : Int) ≤ 1 + (cnt : Int)) = true := by simp; omega
    have hee : In.eqI zIn zIn = true := In.eqI_self _
    clear h1 h2 h3 her
    go_wp2
    have H0 := Lib.hid hX.out.drew
    go_region_held3 (fun w' => w'.cell? ⟨w1.heap.size + 1, 0, none⟩ = some (.int .i64 (l : Nat)) ∧ w'.cell? ⟨w1.heap.size + 1, 1, none⟩ = some (.int .i64 (c : Nat)) ∧ w'.cell? ⟨w1.heap.size, 0, none⟩ = some (.int .i64 zIn.kind) ∧ w'.cell? ⟨w1.heap.size, 1, none⟩ = some (.int .i64 zIn.cap) ∧ w'.cell? ⟨w1.heap.size, 2, none⟩ = some (.slice A0 n0 C0) ∧ w'.cell? ⟨w1.heap.size, 3, none⟩ = some (.slice A1 n1 C1) ∧ w'.cell? ⟨w1.heap.size, 4, none⟩ = some (.int .i64 zIn.size) ∧ w'.cell? ⟨w1.heap.size, 5, none⟩ = some (.slice A2 n2 C2))
      (first | exact H0.out.cells | exact hX.out.cells)
      (first
        | (go_at_call 5; (with_reducible refine (WK _ H0.out.lib H0.out.wrd).mono ?_); rintro e w2 ⟨rfl, b2⟩; have H0 := Lib.hid (H0.out.next b2))
        | (go_at_call 6; (with_reducible refine (CN _).mono ?_); rintro e w3 ⟨rfl, hw3⟩; obtain rfl := hw3.symm)
        | (go_at_call 7; (with_reducible refine (EQ _ _ _ _ _ H0.out.ins (ins_zero _ _ _)).mono ?_); rintro e w4 ⟨rfl, b4⟩; have H0 := Lib.hid (H0.out.next b4); rw [hee]))
    go_wp2
    go_ret
    exact ⟨rfl, H0.out.be⟩

/-! ### the row -/
open Go.ChangeShapes Go.WideShapes Go.ChangeAt
theorem lifted (os : Os) (started : os.Started) (H : Type) (enc : TypeId × Value → H) :
    ReturnsInHanded {} Tryz.checked os 3 .any (fun w args => (Rows.parseGoodSpec.pre enc Tryz.prog Tryz.f3 [] false w args ∧ laidMetH Tryz.prog laidL w) ∧ sizedMet enc Tryz.prog Tryz.f3 (OpenSpec.ofChange Rows.parseGoodSpec) false w args)
      (Rows.parseGoodSpec.post enc Tryz.prog Tryz.f3 false true false false) := by
  refine returnsInHanded_of_change_and (C := Tryz.checked) (X := fun w _ => laidMetH Tryz.prog laidL w) (fun _ _ _ hh h => h.of_heap hh) own started (by kernel_rfl) Tryz.func3
    (ChangeSpec.witness_shaped (enc := enc) (C := Tryz.checked) (os := os) (X := fun w _ => laidMetH Tryz.prog laidL w) false (World.laidAll Tryz.prog os laidL) #[.string ⟨#[]⟩] 8 (World.laidAll_os _ _ _) (start_shaped os) (by kernel_rfl) (by kernel_rfl) (by kernel_rfl) (start_met os _)) ?_
  intro W base args ds gs before hval0 hW _ hsz0 hL _
  have hval : ∀ (j : Nat) t v, Tryz.f3.params[j]? = some t → args[j]? = some v → Value.okWide Tryz.prog W .any base t v := hval0
  have hW' := hW
  obtain ⟨p, q, hA0, hV, rfl, hfz, hnd⟩ := hW
  have hA : DataW.TrodAll enc Tryz.prog W 0 (fun _ => true) true Tryz.f3.params.toList args.toList ds p := hA0
  rw [Tryz.params3] at hA hval
  obtain ⟨v0, vs0, d0, ds0, p0, q0, hargs, rfl, rfl, h0, r0⟩ := trodAll_cons hA
  obtain ⟨rfl, rfl, rfl⟩ := trodAll_nil r0
  obtain rfl : args = #[v0] := by cases args; simp_all
  obtain ⟨rfl, rfl⟩ := trodVars_none hV
  have k0 := h0
  have lt0 : ∀ x ∈ p0, x.block < W.heap.size := by obtain ⟨m, hm⟩ := k0; exact DataW.trod_lt m _ _ _ hm
  obtain ⟨s0, rfl, rfl, _, _⟩ := Go.ChangeMaps.open_string Tryz.underlying9 (hval 0 9 v0 rfl rfl) h0
  have ss0 : s0.size ≤ 281474976710656 := by
    have hz := sized_string hsz0 (j := 0) (t := 9) (bytes := s0.data.toList) (by rw [Tryz.params3]; rfl) rfl
    have hr : reachBytes < 2 ^ 47 := reachBytes_lt
    rw [← Lib.size_eq] at hz
    omega
  clear hA0 hval0
  refine (walk s0 ss0 W (libOk_of_laid hL) (words_of_laid hL)).mono fun e W' ⟨he, bel⟩ => ?_
  subst he
  exact ⟨_, rfl, _, _, _, [], _, [], hW', trodAll_mk1 (shut_bool Tryz.underlying4 _), (trodAll_cons_mk (Below.trod laidOut (by kernel_rfl) (of_decide_eq_true (by kernel_rfl)) k0 bel lt0) trodAll_mk0), rfl, bel.frame _, fun h => by cases h⟩

theorem over : Rows.parseGoodRow.holds Tryz.pinned (OpenSpec.ofChange Rows.parseGoodSpec) :=
  OpenClaim.holds_of_wide 3 Tryz.f3 rfl rfl rfl rfl rfl rfl rfl ⟨rfl, rfl, rfl, rfl, rfl⟩ rfl rfl rfl rfl rfl (by kernel_rfl) Tryz.func3 (by kernel_rfl)
    (of_decide_eq_true (by kernel_rfl)) (by unfold Func.isWrapper; first | (rw [if_pos (by decide +kernel)]; kernel_rfl) | (rw [if_neg (by decide +kernel)]; exact ⟨rfl, rfl⟩))
    (fun os started H enc _ => lifted os started H enc)

theorem card : Rows.ParseGoodCardSaid :=
  Claim7.holds_tied_plain_at .later [] [.data, .data, .data, .data, .data, .sentinel, .sentinel, .pinned] true _ true
    over (fun _ h => by cases h) (by kernel_rfl) (fun _ h => by cases h) parseGood_row_tie rfl ⟨rfl, rfl⟩ (by kernel_rfl) rfl
    (fun f fn hf hfn => by
      obtain rfl : f = 3 := Option.some.inj ((show Tryz.prog.funcNamed Rows.parseGoodRow.func = some 3 by kernel_rfl).symm.trans hf) |>.symm
      obtain rfl : fn = Tryz.f3 := (Option.some.inj (Tryz.func3.symm.trans hfn)).symm
      exact ⟨by kernel_rfl, fun j t ht => by
        rw [Tryz.params3] at ht
        have hm : t ∈ [9] := by simpa using Array.mem_of_getElem? ht
        have hall : ([9].all fun u => !Tryz.prog.wantsStandIn u) = true := by kernel_rfl
        exact (show Tryz.prog.wantsStandIn t = false by simpa using List.all_eq_true.1 hall t hm)⟩)
    (by kernel_rfl)

end Go.Proofs.YtmmacijhjjjkoaaGreatDoor.parseGood
namespace Go.Proofs.YtmmacijhjjjkoaaGreatDoor
theorem parseGood_holds : Rows.ParseGoodCardSaid := parseGood.card
#print axioms parseGood_holds
end Go.Proofs.YtmmacijhjjjkoaaGreatDoor
