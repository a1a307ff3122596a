/-
  RatioSimple: the simplest ratio between every two of small numbers is the document's. For every four numbers of 16 bits.
  Conditions: none beyond the given statement's own.
-/
import Derived.Test.YtjaabjehegcnaaaDoorSimpleWalks
import Derived.Test.YtjaabjehegcnaaaDoorLoopKit
import Derived.Test.YtjaabjehegcnaaaDoorPairFrame
import Derived.Test.YtjaabjehegcnaaaDoorLaidFrame
namespace Go.Proofs.YtjaabjehegcnaaaDoor.ratioSimple
set_option maxRecDepth 100000
open Go.RowKit

theorem rbox_put {n : Nat} {a b : Int} {w : World} (h : RBox n a b w) (a' b' : Int) : RBox n a' b' ((w.setCell ⟨n, 0, none⟩ (.int .i64 a')).setCell ⟨n, 1, none⟩ (.int .i64 b')) := by
  obtain ⟨c0, c1, f0, f1, hs⟩ := h
  exact ⟨by simp [go_sem, c0], by simp [go_sem, c1], by simpa [go_sem] using f0, by simpa [go_sem] using f1, by simpa [World.setCell] using hs⟩
/-- What the loop keeps: two good ratios of small numbers, in their variables. -/
structure Sim (w : World) (nA nB : Nat) (p q r s : Int) (wr : World) : Prop where
  mk ::
  A : RBox nA p q wr
  B : RBox nB r s wr
  bel : Below w.heap.size w wr
  s1 : Small p q
  s2 : Small r s
  g1 : goodB p q = true
  g2 : goodB r s = true
theorem Sim.next {w wr w' : World} {nA nB : Nat} {p q r s : Int} (h : Sim w nA nB p q r s wr) (hb : Below wr.heap.size wr w') : Sim w nA nB p q r s w' :=
  ⟨h.A.next hb, h.B.next hb, on h.bel hb, h.s1, h.s2, h.g1, h.g2⟩
theorem Sim.swap {w wr : World} {nA nB : Nat} {p q r s : Int} (h : Sim w nA nB p q r s wr) (h1 : w.heap.size ≤ nA) (h2 : nA < nB) :
    Sim w nA nB r s p q ((((wr.setCell ⟨nA, 0, none⟩ (.int .i64 r)).setCell ⟨nA, 1, none⟩ (.int .i64 s)).setCell ⟨nB, 0, none⟩ (.int .i64 p)).setCell ⟨nB, 1, none⟩ (.int .i64 q)) :=
  ⟨(rbox_put h.A r s).other (by omega) _ _, rbox_put (h.B.other (by omega) _ _) p q,
    (((h.bel.setCell (by exact h1) _).setCell (by exact h1) _).setCell (by show w.heap.size ≤ nB; omega) _).setCell (by show w.heap.size ≤ nB; omega) _, h.s2, h.s1, h.g2, h.g1⟩

set_option maxHeartbeats 4000000 in
theorem walk (a b c d : Int) (ha : I16 a) (hb : I16 b) (hc : I16 c) (hd : I16 d) (w : World) (hL : LibOk w) :
    Calls Tryd.prog 9 #[.agg #[.int .i16 a, .int .i16 b], .agg #[.int .i16 c, .int .i16 d]] w fun e w' => e = .returned (.bool true) ∧ Below w.heap.size w w' := by
  have hb3 : -300 < b.tmod 300 ∧ b.tmod 300 < 300 := by
    have := (tmod_in (a := b) (b := 300) (by unfold I64; omega) (by decide)).2
    omega
  have hd3 : -300 < d.tmod 300 ∧ d.tmod 300 < 300 := by
    have := (tmod_in (a := d) (b := 300) (by unfold I64; omega) (by decide)).2
    omega
  obtain ⟨y, hy⟩ : ∃ y, b.tmod 300 = y := ⟨_, rfl⟩
  obtain ⟨z, hz⟩ : ∃ y, d.tmod 300 = y := ⟨_, rfl⟩
  rw [hy] at hb3
  rw [hz] at hd3
  have HA := Lib.hid (small_mk (n := a) (d := y) (by unfold I16 at ha; omega) hb3)
  have HC := Lib.hid (small_mk (n := c) (d := z) (by unfold I16 at hc; omega) hd3)
  have M1 := make_any a y (by unfold I16 at ha; unfold I64; omega) (by unfold I64; omega)
  have M2 := make_any c z (by unfold I16 at hc; unfold I64; omega) (by unfold I64; omega)
  unfold mkV at M1 M2
  have GA := Lib.hid (fun h => mk_good (n := a) (d := y) h)
  have GC := Lib.hid (fun h => mk_good (n := c) (d := z) h)
  obtain ⟨p, hp⟩ : ∃ x, mkN a y = x := ⟨_, rfl⟩
  obtain ⟨q, hq⟩ : ∃ x, mkD a y = x := ⟨_, rfl⟩
  obtain ⟨e, he⟩ : ∃ x, mkB a y = x := ⟨_, rfl⟩
  obtain ⟨r, hr⟩ : ∃ x, mkN c z = x := ⟨_, rfl⟩
  obtain ⟨s, hs⟩ : ∃ x, mkD c z = x := ⟨_, rfl⟩
  obtain ⟨f, hf⟩ : ∃ x, mkB c z = x := ⟨_, rfl⟩
  rw [hp, hq, he] at M1 GA
  rw [hr, hs, hf] at M2 GC
  rw [hp, hq] at HA
  rw [hr, hs] at HC
  clear hp hq he hr hs hf
  have X1 : IntKind.i16.wrap y = y := IntWalk.i16_in _ (by omega)
  have X2 : IntKind.i16.wrap z = z := IntWalk.i16_in _ (by omega)
  obtain ⟨a0, a1⟩ := ha
  obtain ⟨b0, b1⟩ := hb
  obtain ⟨c0, c1⟩ := hc
  obtain ⟨d0, d1⟩ := hd
  obtain ⟨y0, y1⟩ := hb3
  obtain ⟨z0, z1⟩ := hd3
  go_enter Tryd.func9, Tryd.ntmps9
  go_wp2_with fail
  with_reducible refine (M1 _).mono ?_
  rintro e w1 ⟨rfl, bb1⟩
  have q0 : w1.cell? ⟨w.heap.size + 1, 0, none⟩ = some (.int .i16 c) := by rw [bb1.cell (by simp)]; simp [go_sem]
  have q1 : w1.cell? ⟨w.heap.size + 1, 1, none⟩ = some (.int .i16 d) := by rw [bb1.cell (by simp)]; simp [go_sem]
  have o1 := new_below w1 (.cells #[.int .i64 p, .int .i64 q] 23)
  have B1 := Lib.hid (on (on (two_new w _ _) bb1) o1)
  have L1 := Lib.hid (((hL.below (two_new w _ _)).below bb1).below o1)
  have R1 := Lib.hid (rbox_new w1 p q 23)
  have s1 := bb1.size
  simp only [World.size_alloc] at s1
  have s1' : w.heap.size + 1 < w1.heap.size := by omega
  have HL := Lib.hid hL
  clear bb1 o1 hL
  go_wp2_with fail
  with_reducible refine (M2 _).mono ?_
  rintro e w2 ⟨rfl, bb2⟩
  have o2 := new_below w2 (.cells #[.int .i64 r, .int .i64 s] 23)
  have B2 := Lib.hid (on (on B1.out bb2) o2)
  have L2 := Lib.hid ((L1.out.below bb2).below o2)
  have R2 := Lib.hid ((R1.out.next bb2).next o2)
  have S2 := Lib.hid (rbox_new w2 r s 23)
  have s2 := bb2.size
  simp only [World.size_alloc] at s2
  clear bb2 o2 B1 L1 R1 q0 q1 M1 M2
  by_cases hef : (e && f) = true
  · have hE : e = true ∧ f = true := by simpa using hef
    obtain ⟨rfl, rfl⟩ := hE
    have gp := GA.out rfl
    have gr := GC.out rfl
    clear hef GA GC
    have S0 := Lib.hid (Sim.mk R2.out S2.out B2.out HA.out HC.out gp gr)
    have z1' : w.heap.size ≤ w1.heap.size := by omega
    have z2' : w1.heap.size < w2.heap.size := by omega
    clear R2 S2 B2 L2 HA HC gp gr hy hz X1 X2
    go_wp2_with fail
    go_loopw [43] (fun i wr => ∃ (j : Nat) (p' q' r' s' : Int), j ≤ 2 ∧ i = .int .i64 j ∧ Sim w w1.heap.size w2.heap.size p' q' r' s' wr) (fun i _ => 2 - (intOf i).toNat)
    case atStart => exact ⟨0, p, q, r, s, by omega, rfl, S0.out⟩
    case round =>
      obtain ⟨j, p', q', r', s', hj, rfl, hS⟩ := hrel
      have HS := Lib.hid hS
      by_cases hlt : j < 2
      · obtain ⟨ip, iq⟩ := small_in hS.s1
        obtain ⟨ir, is⟩ := small_in hS.s2
        have k1 := simplest_any p' q' r' s' ip iq ir is
        have k2 := rsimp_any p' q' r' s' hS.s1 hS.s2 hS.g1 hS.g2
        unfold smpV at k1
        obtain ⟨x1, e1⟩ : ∃ x, smpN p' q' r' s' = x := ⟨_, rfl⟩
        obtain ⟨x2, e2⟩ : ∃ x, smpD p' q' r' s' = x := ⟨_, rfl⟩
        obtain ⟨x3, e3⟩ : ∃ x, smpB p' q' r' s' = x := ⟨_, rfl⟩
        rw [e1, e2, e3] at k1 k2
        obtain ⟨t0, t1, t2, t3, t4⟩ := hS.A
        obtain ⟨v0, v1, v2, v3, v4⟩ := hS.B
        clear e1 e2 e3 hS ip iq ir is
        go_wp2_with fail
        with_reducible refine (k1 _).mono ?_
        rintro e w3 ⟨rfl, b3⟩
        have N3 := HS.out.next b3
        have o3 := new_below w3 (.cells #[.int .i64 x1, .int .i64 x2] 23)
        have HN3 := Lib.hid (N3.next o3)
        have K3 := Lib.hid (rbox_new w3 x1 x2 23)
        clear HS b3 o3 t0 t1 t2 t3 t4 v0 v1 v2 v3 v4
        obtain ⟨t0, t1, t2, t3, t4⟩ := N3.A
        obtain ⟨v0, v1, v2, v3, v4⟩ := N3.B
        clear N3
        go_wp2_with fail
        with_reducible refine (k2 _).mono ?_
        rintro e w4 ⟨rfl, b4⟩
        have N4 := Lib.hid (HN3.out.next b4)
        have K4 := K3.out.next b4
        clear HN3 K3 b4 t0 t1 t2 t3 t4 v0 v1 v2 v3 v4 k1 k2
        obtain ⟨t0, t1, t2, t3, t4⟩ := N4.out.A
        obtain ⟨v0, v1, v2, v3, v4⟩ := N4.out.B
        obtain ⟨u0, u1, u2, u3, u4⟩ := K4
        have N5 := Lib.hid (N4.out.swap z1' z2')
        clear N4
        go_wp2
        go_roundw
        case rel => exact ⟨j + 1, r', s', p', q', by omega, by go_num, N5.out⟩
        case measure => simp [intOf]; omega
      · obtain rfl : j = 2 := by omega
        have ok := HL.out.below hS.bel
        clear hS
        go_wp2_with fail
        with_reducible refine (wakes_any _ ok).mono ?_
        rintro e w3 ⟨rfl, b3⟩
        go_wp2
        go_ret
        exact ⟨rfl, on HS.out.bel b3⟩
  · have L2' := L2.out
    cases e <;> cases f
    case true.true => exact absurd rfl hef
    all_goals
      clear hef
      go_wp2_with fail
      with_reducible refine (wakes_any _ L2').mono ?_
      rintro e w3 ⟨rfl, b3⟩
      go_wp2
      go_ret
      exact ⟨rfl, on B2.out b3⟩

/-! ### the row -/
open Go.ChangeShapes Go.WideShapes Go.ChangeAt
theorem lifted (os : Os) (started : os.Started) (H : Type) (enc : TypeId × Value → H) :
    ReturnsInHanded {} Tryd.checked os 9 .any (fun w args => (Rows.ratioSimpleSpec.pre enc Tryd.prog Tryd.f9 [] false w args ∧ laidMetH Tryd.prog laidL w) ∧ sizedMet enc Tryd.prog Tryd.f9 (OpenSpec.ofChange Rows.ratioSimpleSpec) false w args)
      (Rows.ratioSimpleSpec.post enc Tryd.prog Tryd.f9 false true false false) := by
  refine returnsInHanded_of_change_and (C := Tryd.checked) (X := fun w _ => laidMetH Tryd.prog laidL w) (fun _ _ _ hh h => h.of_heap hh) own started (by kernel_rfl) Tryd.func9
    (ChangeSpec.witness_shaped (enc := enc) (C := Tryd.checked) (os := os) (X := fun w _ => laidMetH Tryd.prog laidL w) false (World.doorLaid Tryd.prog 400 os) #[.agg #[.int .i16 0, .int .i16 0], .agg #[.int .i16 0, .int .i16 0]] 8 rfl (World.shaped_of_RefB (by kernel_rfl) (by kernel_rfl)) (by kernel_rfl) (by kernel_rfl) (by kernel_rfl) (door_met os _)) ?_
  intro W base args ds gs before hval0 hW _ hsz0 hL _
  have hval : ∀ (j : Nat) t v, Tryd.f9.params[j]? = some t → args[j]? = some v → Value.okWide Tryd.prog W .any base t v := hval0
  have hW' := hW
  obtain ⟨p, q, hA0, hV, rfl, hfz, hnd⟩ := hW
  have hA : DataW.TrodAll enc Tryd.prog W 0 (fun _ => true) true Tryd.f9.params.toList args.toList ds p := hA0
  rw [Tryd.params9] at hA hval
  obtain ⟨v0, vs0, d0, ds0, p0, q0, hargs, rfl, rfl, h0, r0⟩ := trodAll_cons hA
  obtain ⟨v1, vs1, d1, ds1, p1, q1, rfl, rfl, rfl, h1, r1⟩ := trodAll_cons r0
  obtain ⟨rfl, rfl, rfl⟩ := trodAll_nil r1
  obtain rfl : args = #[v0, v1] := by cases args; simp_all
  obtain ⟨rfl, rfl⟩ := trodVars_none hV
  have k0 := h0
  have lt0 : ∀ x ∈ p0, x.block < W.heap.size := by obtain ⟨m, hm⟩ := k0; exact DataW.trod_lt m _ _ _ hm
  obtain ⟨a0, b0, wa0, wb0, rfl⟩ := open_pair16 (hval 0 52 v0 rfl rfl) h0
  have k1 := h1
  have lt1 : ∀ x ∈ p1, x.block < W.heap.size := by obtain ⟨m, hm⟩ := k1; exact DataW.trod_lt m _ _ _ hm
  obtain ⟨a1, b1, wa1, wb1, rfl⟩ := open_pair16 (hval 1 52 v1 rfl rfl) h1
  clear hA0 hval0
  refine (walk a0 b0 a1 b1 wa0 wb0 wa1 wb1 W (libOk_of_laid hL)).mono fun e W' ⟨he, bel⟩ => ?_
  subst he
  exact ⟨_, rfl, _, _, _, [], _, [], hW', trodAll_mk1 (shut_bool Tryd.underlying4 _), (trodAll_cons_mk (Below.trod laidOut (by kernel_rfl) (of_decide_eq_true (by kernel_rfl)) k0 bel lt0) (trodAll_cons_mk (Below.trod laidOut (by kernel_rfl) (of_decide_eq_true (by kernel_rfl)) k1 bel lt1) trodAll_mk0)), rfl, bel.frame _, fun h => by cases h⟩

theorem over : Rows.ratioSimpleRow.holds Tryd.pinned (OpenSpec.ofChange Rows.ratioSimpleSpec) :=
  OpenClaim.holds_of_wide 9 Tryd.f9 rfl rfl rfl rfl rfl rfl rfl ⟨rfl, rfl, rfl, rfl, rfl⟩ rfl rfl rfl rfl rfl (by kernel_rfl) Tryd.func9 (by kernel_rfl)
    (of_decide_eq_true (by kernel_rfl)) (by unfold Func.isWrapper; first | (rw [if_pos (by decide +kernel)]; kernel_rfl) | (rw [if_neg (by decide +kernel)]; exact ⟨rfl, rfl⟩))
    (fun os started H enc _ => lifted os started H enc)

theorem card : Rows.RatioSimpleCardSaid :=
  Claim7.holds_tied_plain_at .later [] [.data, .data, .data, .sentinel, .sentinel] true _ true
    over (fun _ h => by cases h) (by kernel_rfl) (fun _ h => by cases h) ratioSimple_row_tie rfl ⟨rfl, rfl⟩ (by kernel_rfl) rfl
    (fun f fn hf hfn => by
      obtain rfl : f = 9 := Option.some.inj ((show Tryd.prog.funcNamed Rows.ratioSimpleRow.func = some 9 by kernel_rfl).symm.trans hf) |>.symm
      obtain rfl : fn = Tryd.f9 := (Option.some.inj (Tryd.func9.symm.trans hfn)).symm
      exact ⟨by kernel_rfl, fun j t ht => by
        rw [Tryd.params9] at ht
        have hm : t ∈ [52, 52] := by simpa using Array.mem_of_getElem? ht
        have hall : ([52, 52].all fun u => !Tryd.prog.wantsStandIn u) = true := by kernel_rfl
        exact (show Tryd.prog.wantsStandIn t = false by simpa using List.all_eq_true.1 hall t hm)⟩)
    (by kernel_rfl)

end Go.Proofs.YtjaabjehegcnaaaDoor.ratioSimple
namespace Go.Proofs.YtjaabjehegcnaaaDoor
theorem ratioSimple_holds : Rows.RatioSimpleCardSaid := ratioSimple.card
#print axioms ratioSimple_holds
end Go.Proofs.YtjaabjehegcnaaaDoor
