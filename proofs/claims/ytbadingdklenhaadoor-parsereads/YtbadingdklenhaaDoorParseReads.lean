/-
  ParseReads: whatever text is parsed, the instance is the document's, or the place at which it fails, and the error. For every text, wherever it lies; under the row's own condition on the listed variables of Go's library and of the project.
-/
import Derived.Test.YtbadingdklenhaaDoorParseWakeM
import Derived.Test.YtbadingdklenhaaDoorParseSame
import Derived.Test.YtbadingdklenhaaDoorParseRefW3M
namespace Go.Proofs.YtbadingdklenhaaDoor.parseReads
set_option maxRecDepth 100000
open Go.RowKit Go.Proofs.YtbadingdklenhaaDoor

theorem len_of_chk {I : In} (h : I.chk = 0) : I.items.length ≤ 4096 ∧ I.sets.length ≤ 4096 := by
  have hs : I.sized = true := by
    cases hz : I.sized with
    | true => rfl
    | false =>
      unfold In.chk at h
      rw [hz] at h
      split at h
      · omega
      · split at h
        · omega
        · simp at h
  unfold In.sized at hs
  simp only [Bool.and_eq_true, decide_eq_true_eq] at hs
  exact ⟨hs.1.1.1.1.1, hs.2⟩
/-- What the variable at ab, of type T, holds: an instance; the one behind it: two numbers. -/
structure Var (T U : TypeId) (ab : Nat) (I : In) (A0 : Option Addr) (n0 C0 : Nat) (A1 : Option Addr) (n1 C1 : Nat) (A2 : Option Addr) (n2 C2 : Nat) (l c : Int) (W : World) : Prop where
  mk ::
  box : IBlk ab T (.int .i64 I.kind) (.int .i64 I.cap) (.slice A0 n0 C0) (.slice A1 n1 C1) (.int .i64 I.size) (.slice A2 n2 C2) W
  pos : W.heap[ab + 1]? = some (.cells #[.int .i64 l, .int .i64 c] U (0, 0))
  ins : Ins (fun _ => True) (fun _ => True) W (.agg #[.int .i64 I.kind, .int .i64 I.cap, .slice A0 n0 C0, .slice A1 n1 C1, .int .i64 I.size, .slice A2 n2 C2]) I
/-- What stands all along. -/
structure GY (w W : World) : Prop where
  mk ::
  lib : LibOk W
  wrd : WordsOk W
  be : Below w.heap.size w W
section
variable {T U : TypeId} {ab : Nat} {I : In} {A0 : Option Addr} {n0 C0 : Nat} {A1 : Option Addr} {n1 C1 : Nat} {A2 : Option Addr} {n2 C2 : Nat} {l c : Int} {w W W' : World}
theorem Var.next (h : Var T U ab I A0 n0 C0 A1 n1 C1 A2 n2 C2 l c W) (hb : Below W.heap.size W W') : Var T U ab I A0 n0 C0 A1 n1 C1 A2 n2 C2 l c W' := ⟨h.box.next hb, (hb.block _ (lt_of_block h.pos)).trans h.pos, h.ins.next hb⟩
theorem GY.next (h : GY w W) (hb : Below W.heap.size W W') : GY w W' := ⟨h.lib.below hb, h.wrd.next hb, h.be.trans (hb.mono h.be.size)⟩
theorem var_new (T U : TypeId) (l c : Int) (h : Ins (fun _ => True) (fun _ => True) W (.agg #[.int .i64 I.kind, .int .i64 I.cap, .slice A0 n0 C0, .slice A1 n1 C1, .int .i64 I.size, .slice A2 n2 C2]) I) :
    Var T U W.heap.size I A0 n0 C0 A1 n1 C1 A2 n2 C2 l c ((W.alloc (.cells #[.int .i64 I.kind, .int .i64 I.cap, .slice A0 n0 C0, .slice A1 n1 C1, .int .i64 I.size, .slice A2 n2 C2] T)).alloc (.cells #[.int .i64 l, .int .i64 c] U)) := by
  have hp := heap_alloc_new (W.alloc (.cells #[.int .i64 I.kind, .int .i64 I.cap, .slice A0 n0 C0, .slice A1 n1 C1, .int .i64 I.size, .slice A2 n2 C2] T)) (.cells #[.int .i64 l, .int .i64 c] U)
  rw [World.size_alloc] at hp
  exact ⟨(iblk_new W _ _ _ _ _ _ _).next (new_below _ _), hp, (h.next (new_below _ _)).next (new_below _ _)⟩
theorem Var.cells (h : Var T U ab I A0 n0 C0 A1 n1 C1 A2 n2 C2 l c W) : W.cell? ⟨ab + 1, 0, none⟩ = some (.int .i64 l) ∧ W.cell? ⟨ab + 1, 1, none⟩ = some (.int .i64 c) := by
  have h1 := h.pos
  constructor <;> (unfold World.cell?; simp only [h1]; rfl)
end
set_option maxHeartbeats 4000000 in
theorem walk (s : ByteArray) (_hs : s.size ≤ 281474976710656) (w : World) (hL : LibOk w) (hW : WordsOk w) :
    Calls Tryd.prog 3 #[.string s] w fun e w' => e = .returned (.bool true) ∧ Below w.heap.size w w' := by
  have PA := parse_any s w hL hW
  have RP := fun W => rparse_any s W
  have WK := fun W a b => wakes_any W a b
  have hgood := parseL_good s.data.toList
  have hlen : (parseL s.data.toList).inst.items.length ≤ 4096 ∧ (parseL s.data.toList).inst.sets.length ≤ 4096 := by
    rcases hgood with ⟨_, hk, _, _⟩ | ⟨_, hz, _, _, _⟩
    · exact len_of_chk hk
    · rw [hz]; exact ⟨Nat.zero_le _, Nat.zero_le _⟩
  clear hgood
  generalize parseL s.data.toList = PS at *
  obtain ⟨I, l, c, er⟩ := PS
  unfold IsPs at PA RP
  simp only at *
  have SM := fun u v W a b => psame_any I I u v W a b hlen.1 hlen.2
  simp only [In.eqI_self] at SM
  have G0 : GY w w := ⟨hL, hW, Below.refl _ _⟩
  clear hlen
  go_enter Tryd.func3, Tryd.ntmps3
  go_wp2_with fail
  with_reducible refine PA.mono ?_
  rintro e w1 ⟨v, rfl, hI, b1⟩
  obtain ⟨A0, n0, C0, A1, n1, C1, A2, n2, C2, rfl⟩ := InV hI
  have nb : Below w1.heap.size w1 ((w1.alloc (.cells #[.int .i64 I.kind, .int .i64 I.cap, .slice A0 n0 C0, .slice A1 n1 C1, .int .i64 I.size, .slice A2 n2 C2] 27)).alloc (.cells #[.int .i64 (l : Nat), .int .i64 (c : Nat)] 29)) := (new_below _ _).alloc (by simp) _
  have G1 := Lib.hid ((G0.next b1).next nb)
  have V1 := Lib.hid (var_new 27 29 (l : Nat) (c : Nat) (hI.imp (F' := fun _ => True) (G' := fun _ => True) (fun _ _ => trivial) (fun _ _ => trivial)))
  clear nb hI b1 PA G0 hL hW
  go_wp2_with fail
  with_reducible refine (RP _).mono ?_
  rintro e w2 ⟨v, rfl, hJ, b2⟩
  obtain ⟨P0, m0, K0, P1, m1, K1, P2, m2, K2, rfl⟩ := InV hJ
  have nb : Below w2.heap.size w2 ((w2.alloc (.cells #[.int .i64 I.kind, .int .i64 I.cap, .slice P0 m0 K0, .slice P1 m1 K1, .int .i64 I.size, .slice P2 m2 K2] 36)).alloc (.cells #[.int .i64 (l : Nat), .int .i64 (c : Nat)] 37)) := (new_below _ _).alloc (by simp) _
  have g2 := (G1.out.next b2).next nb
  have v1 := (V1.out.next b2).next nb
  have v2 := var_new 36 37 (l : Nat) (c : Nat) (hJ.imp (F' := fun _ => True) (G' := fun _ => True) (fun _ _ => trivial) (fun _ _ => trivial))
  obtain ⟨w3, hw3⟩ : ∃ q, q = (w2.alloc (.cells #[.int .i64 I.kind, .int .i64 I.cap, .slice P0 m0 K0, .slice P1 m1 K1, .int .i64 I.size, .slice P2 m2 K2] 36)).alloc (.cells #[.int .i64 (l : Nat), .int .i64 (c : Nat)] 37) := ⟨_, rfl⟩
  rw [← hw3] at g2 v1 v2
  have G3 := Lib.hid g2
  have V1 := Lib.hid v1
  have V2 := Lib.hid v2
  clear nb hJ b2 RP G1 g2 v1 v2
  go_wp2_with fail
  rw [← hw3]
  clear hw3
  with_reducible refine (WK _ G3.out.lib G3.out.wrd).mono ?_
  rintro e w4 ⟨rfl, b4⟩
  have G4 := Lib.hid (G3.out.next b4)
  have V1 := Lib.hid (V1.out.next b4)
  have V2 := Lib.hid (V2.out.next b4)
  clear b4 G3 WK
  obtain ⟨a0, a1, a2, a3, a4, a5⟩ := V1.out.box.box
  obtain ⟨d0, d1, d2, d3, d4, d5⟩ := V2.out.box.box
  have hal := V1.out.box.lt
  have hdl := V2.out.box.lt
  go_wp2_with fail
  with_reducible refine (SM _ _ _ V1.out.ins V2.out.ins).mono ?_
  rintro e w5 ⟨rfl, b5⟩
  have G5 := Lib.hid (G4.out.next b5)
  have V1 := Lib.hid (V1.out.next b5)
  have V2 := Lib.hid (V2.out.next b5)
  clear b5 G4 SM a0 a1 a2 a3 a4 a5 d0 d1 d2 d3 d4 d5 hal hdl
  obtain ⟨p0, p1⟩ := V1.out.cells
  obtain ⟨q0, q1⟩ := V2.out.cells
  have hpl := lt_of_block V1.out.pos
  have hql := lt_of_block V2.out.pos
  go_wp2
  go_ret
  exact ⟨rfl, G5.out.be⟩

/-! ### the row -/
open Go.ChangeShapes Go.WideShapes Go.ChangeAt
theorem lifted (os : Os) (started : os.Started) (H : Type) (enc : TypeId × Value → H) :
    ReturnsInHanded {} Tryd.checked os 3 .any (fun w args => (Rows.parseReadsSpec.pre enc Tryd.prog Tryd.f3 [] false w args ∧ laidMetH Tryd.prog laidL w) ∧ sizedMet enc Tryd.prog Tryd.f3 (OpenSpec.ofChange Rows.parseReadsSpec) false w args)
      (Rows.parseReadsSpec.post enc Tryd.prog Tryd.f3 false true false false) := by
  refine returnsInHanded_of_change_and (C := Tryd.checked) (X := fun w _ => laidMetH Tryd.prog laidL w) (fun _ _ _ hh h => h.of_heap hh) own started (by kernel_rfl) Tryd.func3
    (ChangeSpec.witness_shaped (enc := enc) (C := Tryd.checked) (os := os) (X := fun w _ => laidMetH Tryd.prog laidL w) false (World.laidAll Tryd.prog os laidL) #[.string ⟨#[]⟩] 8 (World.laidAll_os _ _ _) (start_shaped os) (by kernel_rfl) (by kernel_rfl) (by kernel_rfl) (start_met os _)) ?_
  intro W base args ds gs before hval0 hW _ hsz0 hL _
  have hval : ∀ (j : Nat) t v, Tryd.f3.params[j]? = some t → args[j]? = some v → Value.okWide Tryd.prog W .any base t v := hval0
  have hW' := hW
  obtain ⟨p, q, hA0, hV, rfl, hfz, hnd⟩ := hW
  have hA : DataW.TrodAll enc Tryd.prog W 0 (fun _ => true) true Tryd.f3.params.toList args.toList ds p := hA0
  rw [Tryd.params3] at hA hval
  obtain ⟨v0, vs0, d0, ds0, p0, q0, hargs, rfl, rfl, h0, r0⟩ := trodAll_cons hA
  obtain ⟨rfl, rfl, rfl⟩ := trodAll_nil r0
  obtain rfl : args = #[v0] := by cases args; simp_all
  obtain ⟨rfl, rfl⟩ := trodVars_none hV
  have k0 := h0
  have lt0 : ∀ x ∈ p0, x.block < W.heap.size := by obtain ⟨m, hm⟩ := k0; exact DataW.trod_lt m _ _ _ hm
  obtain ⟨s0, rfl, rfl, _, _⟩ := Go.ChangeMaps.open_string Tryd.underlying9 (hval 0 9 v0 rfl rfl) h0
  have ss0 : s0.size ≤ 281474976710656 := by
    have hz := sized_string hsz0 (j := 0) (t := 9) (bytes := s0.data.toList) (by rw [Tryd.params3]; rfl) rfl
    have hr : reachBytes < 2 ^ 47 := reachBytes_lt
    rw [← Lib.size_eq] at hz
    omega
  clear hA0 hval0
  refine (walk s0 ss0 W (libOk_of_laid hL) (words_of_laid hL)).mono fun e W' ⟨he, bel⟩ => ?_
  subst he
  exact ⟨_, rfl, _, _, _, [], _, [], hW', trodAll_mk1 (shut_bool Tryd.underlying4 _), (trodAll_cons_mk (Below.trod laidOut (by kernel_rfl) (of_decide_eq_true (by kernel_rfl)) k0 bel lt0) trodAll_mk0), rfl, bel.frame _, fun h => by cases h⟩

theorem over : Rows.parseReadsRow.holds Tryd.pinned (OpenSpec.ofChange Rows.parseReadsSpec) :=
  OpenClaim.holds_of_wide 3 Tryd.f3 rfl rfl rfl rfl rfl rfl rfl ⟨rfl, rfl, rfl, rfl, rfl⟩ rfl rfl rfl rfl rfl (by kernel_rfl) Tryd.func3 (by kernel_rfl)
    (of_decide_eq_true (by kernel_rfl)) (by unfold Func.isWrapper; first | (rw [if_pos (by decide +kernel)]; kernel_rfl) | (rw [if_neg (by decide +kernel)]; exact ⟨rfl, rfl⟩))
    (fun os started H enc _ => lifted os started H enc)

theorem card : Rows.ParseReadsCardSaid :=
  Claim7.holds_tied_plain_at .later [] [.data, .data, .data, .data, .data, .sentinel, .sentinel, .pinned] true _ true
    over (fun _ h => by cases h) (by kernel_rfl) (fun _ h => by cases h) parseReads_row_tie rfl ⟨rfl, rfl⟩ (by kernel_rfl) rfl
    (fun f fn hf hfn => by
      obtain rfl : f = 3 := Option.some.inj ((show Tryd.prog.funcNamed Rows.parseReadsRow.func = some 3 by kernel_rfl).symm.trans hf) |>.symm
      obtain rfl : fn = Tryd.f3 := (Option.some.inj (Tryd.func3.symm.trans hfn)).symm
      exact ⟨by kernel_rfl, fun j t ht => by
        rw [Tryd.params3] at ht
        have hm : t ∈ [9] := by simpa using Array.mem_of_getElem? ht
        have hall : ([9].all fun u => !Tryd.prog.wantsStandIn u) = true := by kernel_rfl
        exact (show Tryd.prog.wantsStandIn t = false by simpa using List.all_eq_true.1 hall t hm)⟩)
    (by kernel_rfl)

end Go.Proofs.YtbadingdklenhaaDoor.parseReads
namespace Go.Proofs.YtbadingdklenhaaDoor
theorem parseReads_holds : Rows.ParseReadsCardSaid := parseReads.card
#print axioms parseReads_holds
end Go.Proofs.YtbadingdklenhaaDoor
