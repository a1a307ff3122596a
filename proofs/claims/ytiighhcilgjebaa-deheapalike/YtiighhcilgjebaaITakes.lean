/-
  What take, PopMin and PopMax do (layer 6).
-/
import Derived.Test.YtiighhcilgjebaaITells
namespace Go.Proofs.Ytiighhcilgjebaa.I
set_option maxRecDepth 100000
open Go.RowKit Go.Sort

abbrev TkSt := TkStT 94
abbrev Popped := PoppedT 94 I.Right
abbrev IsPopped := IsPoppedT 94 I.Right
theorem take_none (v : Value) (hi : Bool) (w : World) (L : ∀ w' : World, Below w.heap.size w w' → Calls Try.prog 100 #[v] w' fun e w'' => e = .returned (.int .i64 0) ∧ w' = w'') : Calls Try.prog 108 #[v, .bool hi] w (Told zeroE false w) := by
  have B1 : Below w.heap.size w (w.alloc (.cells #[.int .i64 0, .int .i64 0, .int .i64 0, .int .i64 0] 32)) := (Below.refl _ _).alloc (Nat.le_refl _) _
  have L1 := tell_none v hi _ fun w2 b2 => L w2 (B1.trans (b2.mono B1.size))
  have HN := heap_alloc_new w (.cells #[.int .i64 0, .int .i64 0, .int .i64 0, .int .i64 0] 32)
  unfold Told entV at L1
  have HB1 := Lib.hid B1
  have HN1 := Lib.hid HN
  have hsz : w.heap.size < (w.alloc (.cells #[.int .i64 0, .int .i64 0, .int .i64 0, .int .i64 0] 32)).heap.size := by simp
  have HSZ := Lib.hid hsz
  clear L B1 HN hsz
  go_enter Try.func108, Try.ntmps108
  go_wp2_with fail
  with_reducible refine L1.mono ?_
  rintro e w2 ⟨rfl, b2⟩
  have b3 := (b2.block _ HSZ.out).trans HN1.out
  obtain ⟨r0, r1, r2, r3, f0, f1, f2, f3, rz⟩ := cells4 b3
  have hs2 := b2.size
  have E : Hid (∀ v0 v1 v2 v3 o, Below w.heap.size w (((((w2.setCell ⟨w.heap.size, 0, none⟩ v0).setCell ⟨w.heap.size, 1, none⟩ v1).setCell ⟨w.heap.size, 2, none⟩ v2).setCell ⟨w.heap.size, 3, none⟩ v3).alloc o)) := fun v0 v1 v2 v3 o => by
    have h := below_set4 (HB1.out.trans (b2.mono (Nat.le_of_lt HSZ.out))) (Nat.le_refl _) v0 v1 v2 v3
    exact h.alloc h.size o
  clear b2 L1 b3
  go_wp2
  exact bodyPost_ret (v := .tuple #[entV zeroE, .bool false]) (by simp [results, Try.results108, go_sem, entV, zeroE, r0, r1, r2, r3, rz]) rfl ⟨rfl, E.out _ _ _ _ _⟩
/-- What take leaves. -/
def IsTaken (B hb gr c : Nat) (up : Bool) (l : List En) (w : World) (e : Ending) (w' : World) : Prop :=
  ∃ l', e = .returned (.tuple #[entV (nth l (pl l.length up 0)), .bool true]) ∧ HeapAt w' B hb (.slice (some ⟨gr, 0, none⟩) (l.length - 1) c) l' ∧ Off w hb (.slice (some ⟨gr, 0, none⟩) l.length c) w' ∧ l'.Perm (tak l (pl l.length up 0)) ∧ Right l'
def planTa (hb gr ix m n c : Nat) (hh : Bool) (y : En) : Plan := { ks := [0, 0, 0, 0, 0, 0, 0, 0, 0, 0, 0, 0, 0, 0, 0, 0, 0, 0, 2], ds := [24, 25, 26, 27, 28, 29, 30, 31, 32, 33, 34, 35, 36, 37, 38, 39, 40, 41, 0], vs := [.pointer (some ⟨hb, 0, none⟩), .pointer (some ⟨hb, 0, none⟩), .pointer (some ⟨hb, 0, none⟩), .slice (some ⟨gr, 0, none⟩) n c, .pointer (some ⟨hb, 0, none⟩), .pointer (some ⟨hb, 0, none⟩), .pointer (some ⟨hb, 0, none⟩), .slice (some ⟨gr, 0, none⟩) n c, .bool hh, .int .i64 (ix : Int), .pointer (some ⟨hb, 0, none⟩), .pointer (some ⟨hb, 0, none⟩), .pointer (some ⟨hb, 0, none⟩), .slice (some ⟨gr, 0, none⟩) n c, .int .i64 (m : Int), .pointer (some ⟨gr, m * 4, none⟩), .agg #[.int .i64 y.b, .int .i64 y.d, .int .i64 y.s, .int .i64 y.i], .pointer (some ⟨gr, ix * 4, none⟩), undef], ss := [0, 0, 0, 0, 0, 0, 0, 0, 0, 0, 0, 0, 0, 0, 0, 0, 0, 0, 0], zs := [#[], #[], #[], #[], #[], #[], #[], #[], #[], #[], #[], #[], #[], #[], #[], #[], #[], #[], #[]], fs := [#[], #[], #[], #[], #[], #[], #[], #[], #[], #[], #[], #[], #[], #[], #[], #[], #[], #[], #[]], ts := [0, 0, 0, 0, 0, 0, 0, 0, 0, 0, 0, 0, 0, 0, 0, 0, 0, 0, 0] }
set_option maxHeartbeats 4000000 in
theorem take_any (l : List En) (hl : l.length ≤ 1000) (h0 : 0 < l.length) (up : Bool) (B hb gr c : Nat) (w : World) (h : HeapAt w B hb (.slice (some ⟨gr, 0, none⟩) l.length c) l) (hr : Right l) :
    Calls Try.prog 108 #[.pointer (some ⟨hb, 0, none⟩), .bool (!up)] w (IsTaken B hb gr c up l w) := by
  have B1 : Below w.heap.size w (w.alloc (.cells #[.int .i64 0, .int .i64 0, .int .i64 0, .int .i64 0] 32)) := (Below.refl _ _).alloc (Nat.le_refl _) _
  have h1 := h.next B1
  have L1 := tell_any _ B hb _ l h0 hl up h1
  have HN := heap_alloc_new w (.cells #[.int .i64 0, .int .i64 0, .int .i64 0, .int .i64 0] 32)
  have hsz : w.heap.size < (w.alloc (.cells #[.int .i64 0, .int .i64 0, .int .i64 0, .int .i64 0] 32)).heap.size := by simp
  have SP := snk_pop hr up
  have hml := pl_lt (n := l.length) (k := 0) up (by omega)
  obtain ⟨m, em⟩ : ∃ m : Nat, l.length - 1 = m := ⟨_, rfl⟩
  obtain ⟨ix, eix⟩ : ∃ ix, pl l.length up 0 = ix := ⟨_, rfl⟩
  obtain ⟨x, ex⟩ : ∃ x, nth l ix = x := ⟨_, rfl⟩
  obtain ⟨y, ey⟩ : ∃ y, nth l m = y := ⟨_, rfl⟩
  have P0 := place0_any (some ⟨gr, 0, none⟩) l.length c up h0 (by omega)
  rw [eix] at L1 SP P0 hml
  rw [ex] at L1
  unfold Told entV at L1
  have hg := (h.row.lt gr rfl).2
  have hlt := h.lt
  have HX : Hid (∀ w2, Below (w.alloc (.cells #[.int .i64 0, .int .i64 0, .int .i64 0, .int .i64 0] 32)).heap.size (w.alloc (.cells #[.int .i64 0, .int .i64 0, .int .i64 0, .int .i64 0] 32)) w2 →
      TkSt B hb gr c l.length l.length l x w2.heap.size w (w2.alloc (.cells #[.int .i64 x.b, .int .i64 x.d, .int .i64 x.s, .int .i64 x.i] 32))) := fun w2 b2 => by
    have b3 : Below w2.heap.size w2 (w2.alloc (.cells #[.int .i64 x.b, .int .i64 x.d, .int .i64 x.s, .int .i64 x.i] 32)) := (Below.refl _ _).alloc (Nat.le_refl _) _
    have hs2 := b2.size
    have bb : Below w.heap.size w w2 := B1.trans (b2.mono B1.size)
    exact ⟨(h1.next b2).next b3, Off.start (bb.trans (b3.mono bb.size)), heap_alloc_new _ _, (b3.block _ (by omega)).trans ((b2.block _ hsz).trans HN), hlt, hg, by omega⟩
  have HEX := Lib.hid ex
  have HEY := Lib.hid ey
  have HSP := Lib.hid SP
  have HIX := Lib.hid eix
  obtain ⟨n, en⟩ : ∃ n, l.length = n := ⟨_, rfl⟩
  have HEN := Lib.hid en
  rw [en] at HX hl h0 hml P0 em
  unfold IsTaken
  rw [eix, ex, en, em]
  have kw : (n : Int) - 1 = (m : Int) := by omega
  have HM := Lib.hid em
  clear h h1 hr B1 HN hsz SP eix ex ey en em
  obtain ⟨hh, ehh⟩ : ∃ hh, (!up) = hh := ⟨_, rfl⟩
  have HHH := Lib.hid ehh
  rw [ehh] at L1 P0 ⊢
  clear ehh
  go_enter Try.func108, Try.ntmps108
  go_wp2_with fail
  with_reducible refine L1.mono ?_
  rintro e w2 ⟨rfl, b2⟩
  have hA := HX.out w2 b2
  obtain ⟨xb, hxb⟩ : ∃ xb, w2.heap.size = xb := ⟨_, rfl⟩
  have hca := hA.at_.cell
  rw [hxb] at hA
  have HA := Lib.hid (hA.next (Below.refl _ _).drew)
  clear b2 L1 HX hA
  go_wp2
  clear hca
  generalize (w2.alloc (.cells #[.int .i64 x.b, .int .i64 x.d, .int .i64 x.s, .int .i64 x.i] 32)) = wA at *
  obtain ⟨wD, ewD⟩ : ∃ wD, wA.drew = wD := ⟨_, rfl⟩
  rw [ewD] at HA
  have EWD := Lib.hid ewD
  clear ewD hxb
  have HP := Lib.hid (HA.out.put (by rw [HEN.out]; exact hml) y)
  have cb := HA.out.at_.cell
  have hR : Row B gr l.length c l wD := by have q := HA.out.at_.row; rw [HEN.out] at q ⊢; exact q
  have hL := own_list hR
  have hmn : m < n := by omega
  obtain ⟨y0, y1, y2, y3⟩ := hL.nth (i := m) (by rw [HEN.out]; exact hmn)
  rw [HEY.out] at y0 y1 y2 y3
  obtain ⟨z, z0, z1, z2, z3, z4, z5, z6, z7⟩ := hR.facts (k := ix) (by rw [HEN.out]; exact hml)
  have c01 : (0 : Int) ≤ (ix : Int) := by omega
  have c02 : (ix : Int) < (n : Int) := by omega
  have c03 : (0 : Int) ≤ (m : Int) := by omega
  have c04 : (m : Int) < (n : Int) := by omega
  clear hR hL
  have ok : (planTa hb gr ix m n c hh y).ok = true := rfl
  refine region_inv (Inv := fun lq_ aq_ wr => ∃ (e : Nat → Bool) (t : Nat → Value), lq_ = #[e 0, e 1, e 2, e 3, e 4, e 5, e 6, e 7, e 8, e 9, e 10, e 11, e 12, e 13, e 14, e 15, e 16, e 17, e 18] ∧ aq_ = ⟨#[.pointer (some ⟨hb, 0, none⟩), .bool hh, undef, undef, .pointer (some ⟨w.heap.size, 0, none⟩), .bool false, .pointer (some ⟨xb, 0, none⟩), .bool true, .int .i64 (m : Int), .tuple #[.agg #[.int .i64 x.b, .int .i64 x.d, .int .i64 x.s, .int .i64 x.i], .bool true], .pointer (some ⟨hb, 0, none⟩), .bool hh, .tuple #[.agg #[.int .i64 x.b, .int .i64 x.d, .int .i64 x.s, .int .i64 x.i], .bool true], .agg #[.int .i64 x.b, .int .i64 x.d, .int .i64 x.s, .int .i64 x.i], .bool true, .bool true, .bool false, undef, .pointer (some ⟨hb, 0, none⟩), .pointer (some ⟨hb, 0, none⟩), .pointer (some ⟨hb, 0, none⟩), .slice (some ⟨gr, 0, none⟩) n c, .int .i64 (n : Int), .int .i64 (m : Int), t 24, t 25, t 26, t 27, t 28, t 29, t 30, t 31, t 32, t 33, t 34, t 35, t 36, t 37, t 38, t 39, t 40, t 41, undef, undef, undef, undef, undef, undef, undef, undef, undef, undef, undef, undef, undef, undef, undef, undef], []⟩ ∧ Vals (planTa hb gr ix m n c hh y) e t ∧ MLast wD ((((wD.setCell ⟨gr, ix * 4, none⟩ (.int .i64 y.b)).setCell ⟨gr, ix * 4 + 1, none⟩ (.int .i64 y.d)).setCell ⟨gr, ix * 4 + 2, none⟩ (.int .i64 y.s)).setCell ⟨gr, ix * 4 + 3, none⟩ (.int .i64 y.i)) 18 [3, 7, 9, 13, 16] e wr) (by kernel_rfl) ?step ?start ?done
  case start => exact ⟨fun _ => false, fun _ => undef, rfl, rfl, Vals.start _ _, by rw [← EWD.out]; exact MLast.start _ _ _ _⟩
  case step =>
    rintro lq_ aq_ wr ⟨e, t, rfl, rfl, hs, hm⟩ q_ o ho hi ha
    match q_, ho, hi, ha with
    | 0, ho, hi, ha =>
      obtain rfl : _ = o := Option.some.inj ho
      have hi : e 0 = false := hi
      refine wpOp_step (i := 0) rfl (fun K hK => ?_)
      have HK : Shut (∀ a w, _ → K a w) := hK
      clear hK ho
      have HS := Lib.hid hs
      have HM := Lib.hid hm
      have HI := Lib.hid hi
      clear hs ha hm hi
      go_simp
      exact HK.out _ _ ⟨upd e 0 true, upd t 24 _, rfl, rfl, by exact HS.out.put ok (i := 0) rfl, HM.out.mark (by decide)⟩
    | 1, ho, hi, ha =>
      obtain rfl : _ = o := Option.some.inj ho
      have hi : e 1 = false := hi
      have T0 : t 24 = .pointer (some ⟨hb, 0, none⟩) := hs.val 0 rfl (ha { on := 0, ground := .data } (by simp) rfl)
      have H0 := Lib.hid T0
      refine wpOp_step (i := 1) rfl (fun K hK => ?_)
      have HK : Shut (∀ a w, _ → K a w) := hK
      clear hK ho
      have HS := Lib.hid hs
      have HM := Lib.hid hm
      have HI := Lib.hid hi
      clear hs ha hm hi
      go_simp
      exact HK.out _ _ ⟨upd e 1 true, upd (upd t 24 _) 25 _, rfl, rfl, by rw [upd_self H0.out]; exact HS.out.put ok (i := 1) rfl, HM.out.mark (by decide)⟩
    | 2, ho, hi, ha =>
      obtain rfl : _ = o := Option.some.inj ho
      have hi : e 2 = false := hi
      have T1 : t 25 = .pointer (some ⟨hb, 0, none⟩) := hs.val 1 rfl (ha { on := 1, ground := .data } (by simp) rfl)
      have H1 := Lib.hid T1
      refine wpOp_step (i := 2) rfl (fun K hK => ?_)
      have HK : Shut (∀ a w, _ → K a w) := hK
      clear hK ho
      have HS := Lib.hid hs
      have HM := Lib.hid hm
      have HI := Lib.hid hi
      clear hs ha hm hi
      go_simp
      exact HK.out _ _ ⟨upd e 2 true, upd (upd t 25 _) 26 _, rfl, rfl, by rw [upd_self H1.out]; exact HS.out.put ok (i := 2) rfl, HM.out.mark (by decide)⟩
    | 3, ho, hi, ha =>
      obtain rfl : _ = o := Option.some.inj ho
      have hi : e 3 = false := hi
      have T2 : t 26 = .pointer (some ⟨hb, 0, none⟩) := hs.val 2 rfl (ha { on := 2, ground := .data } (by simp) rfl)
      have H2 := Lib.hid T2
      obtain rfl := hm.get 3 (by decide) hi
      refine wpOp_step (i := 3) rfl (fun K hK => ?_)
      have HK : Shut (∀ a w, _ → K a w) := hK
      clear hK ho
      have HS := Lib.hid hs
      have HM := Lib.hid hm
      have HI := Lib.hid hi
      clear hs ha hm hi
      go_simp
      exact HK.out _ _ ⟨upd e 3 true, upd (upd t 26 _) 27 _, rfl, rfl, by rw [upd_self H2.out]; exact HS.out.put ok (i := 3) rfl, HM.out.mark (by decide)⟩
    | 4, ho, hi, ha =>
      obtain rfl : _ = o := Option.some.inj ho
      have hi : e 4 = false := hi
      refine wpOp_step (i := 4) rfl (fun K hK => ?_)
      have HK : Shut (∀ a w, _ → K a w) := hK
      clear hK ho
      have HS := Lib.hid hs
      have HM := Lib.hid hm
      have HI := Lib.hid hi
      clear hs ha hm hi
      go_simp
      exact HK.out _ _ ⟨upd e 4 true, upd t 28 _, rfl, rfl, by exact HS.out.put ok (i := 4) rfl, HM.out.mark (by decide)⟩
    | 5, ho, hi, ha =>
      obtain rfl : _ = o := Option.some.inj ho
      have hi : e 5 = false := hi
      have T4 : t 28 = .pointer (some ⟨hb, 0, none⟩) := hs.val 4 rfl (ha { on := 4, ground := .data } (by simp) rfl)
      have H4 := Lib.hid T4
      refine wpOp_step (i := 5) rfl (fun K hK => ?_)
      have HK : Shut (∀ a w, _ → K a w) := hK
      clear hK ho
      have HS := Lib.hid hs
      have HM := Lib.hid hm
      have HI := Lib.hid hi
      clear hs ha hm hi
      go_simp
      exact HK.out _ _ ⟨upd e 5 true, upd (upd t 28 _) 29 _, rfl, rfl, by rw [upd_self H4.out]; exact HS.out.put ok (i := 5) rfl, HM.out.mark (by decide)⟩
    | 6, ho, hi, ha =>
      obtain rfl : _ = o := Option.some.inj ho
      have hi : e 6 = false := hi
      have T5 : t 29 = .pointer (some ⟨hb, 0, none⟩) := hs.val 5 rfl (ha { on := 5, ground := .data } (by simp) rfl)
      have H5 := Lib.hid T5
      refine wpOp_step (i := 6) rfl (fun K hK => ?_)
      have HK : Shut (∀ a w, _ → K a w) := hK
      clear hK ho
      have HS := Lib.hid hs
      have HM := Lib.hid hm
      have HI := Lib.hid hi
      clear hs ha hm hi
      go_simp
      exact HK.out _ _ ⟨upd e 6 true, upd (upd t 29 _) 30 _, rfl, rfl, by rw [upd_self H5.out]; exact HS.out.put ok (i := 6) rfl, HM.out.mark (by decide)⟩
    | 7, ho, hi, ha =>
      obtain rfl : _ = o := Option.some.inj ho
      have hi : e 7 = false := hi
      have T6 : t 30 = .pointer (some ⟨hb, 0, none⟩) := hs.val 6 rfl (ha { on := 6, ground := .data } (by simp) rfl)
      have H6 := Lib.hid T6
      obtain rfl := hm.get 7 (by decide) hi
      refine wpOp_step (i := 7) rfl (fun K hK => ?_)
      have HK : Shut (∀ a w, _ → K a w) := hK
      clear hK ho
      have HS := Lib.hid hs
      have HM := Lib.hid hm
      have HI := Lib.hid hi
      clear hs ha hm hi
      go_simp
      exact HK.out _ _ ⟨upd e 7 true, upd (upd t 30 _) 31 _, rfl, rfl, by rw [upd_self H6.out]; exact HS.out.put ok (i := 7) rfl, HM.out.mark (by decide)⟩
    | 8, ho, hi, ha =>
      obtain rfl : _ = o := Option.some.inj ho
      have hi : e 8 = false := hi
      refine wpOp_step (i := 8) rfl (fun K hK => ?_)
      have HK : Shut (∀ a w, _ → K a w) := hK
      clear hK ho
      have HS := Lib.hid hs
      have HM := Lib.hid hm
      have HI := Lib.hid hi
      clear hs ha hm hi
      go_simp
      exact HK.out _ _ ⟨upd e 8 true, upd t 32 _, rfl, rfl, by exact HS.out.put ok (i := 8) rfl, HM.out.mark (by decide)⟩
    | 9, ho, hi, ha =>
      obtain rfl : _ = o := Option.some.inj ho
      have hi : e 9 = false := hi
      have T7 : t 31 = .slice (some ⟨gr, 0, none⟩) n c := hs.val 7 rfl (ha { on := 7, ground := .data } (by simp) rfl)
      have H7 := Lib.hid T7
      have T8 : t 32 = .bool hh := hs.val 8 rfl (ha { on := 8, ground := .data } (by simp) rfl)
      have H8 := Lib.hid T8
      obtain rfl := hm.get 9 (by decide) hi
      refine wpOp_step (i := 9) rfl (fun K hK => ?_)
      have HK : Shut (∀ a w, _ → K a w) := hK
      clear hK ho
      have HS := Lib.hid hs
      have HM := Lib.hid hm
      have HI := Lib.hid hi
      clear hs ha hm hi
      go_simp
      (with_reducible refine (P0 _).mono ?_)
      rintro e' w' ⟨rfl, rfl⟩
      go_wp2_with fail
      exact HK.out _ _ ⟨upd e 9 true, upd (upd (upd t 31 _) 32 _) 33 _, rfl, rfl, by rw [upd_self H7.out, upd_self H8.out]; exact HS.out.put ok (i := 9) rfl, HM.out.mark (by decide)⟩
    | 10, ho, hi, ha =>
      obtain rfl : _ = o := Option.some.inj ho
      have hi : e 10 = false := hi
      refine wpOp_step (i := 10) rfl (fun K hK => ?_)
      have HK : Shut (∀ a w, _ → K a w) := hK
      clear hK ho
      have HS := Lib.hid hs
      have HM := Lib.hid hm
      have HI := Lib.hid hi
      clear hs ha hm hi
      go_simp
      exact HK.out _ _ ⟨upd e 10 true, upd t 34 _, rfl, rfl, by exact HS.out.put ok (i := 10) rfl, HM.out.mark (by decide)⟩
    | 11, ho, hi, ha =>
      obtain rfl : _ = o := Option.some.inj ho
      have hi : e 11 = false := hi
      have T10 : t 34 = .pointer (some ⟨hb, 0, none⟩) := hs.val 10 rfl (ha { on := 10, ground := .data } (by simp) rfl)
      have H10 := Lib.hid T10
      refine wpOp_step (i := 11) rfl (fun K hK => ?_)
      have HK : Shut (∀ a w, _ → K a w) := hK
      clear hK ho
      have HS := Lib.hid hs
      have HM := Lib.hid hm
      have HI := Lib.hid hi
      clear hs ha hm hi
      go_simp
      exact HK.out _ _ ⟨upd e 11 true, upd (upd t 34 _) 35 _, rfl, rfl, by rw [upd_self H10.out]; exact HS.out.put ok (i := 11) rfl, HM.out.mark (by decide)⟩
    | 12, ho, hi, ha =>
      obtain rfl : _ = o := Option.some.inj ho
      have hi : e 12 = false := hi
      have T11 : t 35 = .pointer (some ⟨hb, 0, none⟩) := hs.val 11 rfl (ha { on := 11, ground := .data } (by simp) rfl)
      have H11 := Lib.hid T11
      refine wpOp_step (i := 12) rfl (fun K hK => ?_)
      have HK : Shut (∀ a w, _ → K a w) := hK
      clear hK ho
      have HS := Lib.hid hs
      have HM := Lib.hid hm
      have HI := Lib.hid hi
      clear hs ha hm hi
      go_simp
      exact HK.out _ _ ⟨upd e 12 true, upd (upd t 35 _) 36 _, rfl, rfl, by rw [upd_self H11.out]; exact HS.out.put ok (i := 12) rfl, HM.out.mark (by decide)⟩
    | 13, ho, hi, ha =>
      obtain rfl : _ = o := Option.some.inj ho
      have hi : e 13 = false := hi
      have T12 : t 36 = .pointer (some ⟨hb, 0, none⟩) := hs.val 12 rfl (ha { on := 12, ground := .data } (by simp) rfl)
      have H12 := Lib.hid T12
      obtain rfl := hm.get 13 (by decide) hi
      refine wpOp_step (i := 13) rfl (fun K hK => ?_)
      have HK : Shut (∀ a w, _ → K a w) := hK
      clear hK ho
      have HS := Lib.hid hs
      have HM := Lib.hid hm
      have HI := Lib.hid hi
      clear hs ha hm hi
      go_simp
      exact HK.out _ _ ⟨upd e 13 true, upd (upd t 36 _) 37 _, rfl, rfl, by rw [upd_self H12.out]; exact HS.out.put ok (i := 13) rfl, HM.out.mark (by decide)⟩
    | 14, ho, hi, ha =>
      obtain rfl : _ = o := Option.some.inj ho
      have hi : e 14 = false := hi
      refine wpOp_step (i := 14) rfl (fun K hK => ?_)
      have HK : Shut (∀ a w, _ → K a w) := hK
      clear hK ho
      have HS := Lib.hid hs
      have HM := Lib.hid hm
      have HI := Lib.hid hi
      clear hs ha hm hi
      go_simp
      exact HK.out _ _ ⟨upd e 14 true, upd t 38 _, rfl, rfl, by exact HS.out.put ok (i := 14) rfl, HM.out.mark (by decide)⟩
    | 15, ho, hi, ha =>
      obtain rfl : _ = o := Option.some.inj ho
      have hi : e 15 = false := hi
      have T13 : t 37 = .slice (some ⟨gr, 0, none⟩) n c := hs.val 13 rfl (ha { on := 13, ground := .data } (by simp) rfl)
      have H13 := Lib.hid T13
      have T14 : t 38 = .int .i64 (m : Int) := hs.val 14 rfl (ha { on := 14, ground := .data } (by simp) rfl)
      have H14 := Lib.hid T14
      refine wpOp_step (i := 15) rfl (fun K hK => ?_)
      have HK : Shut (∀ a w, _ → K a w) := hK
      clear hK ho
      have HS := Lib.hid hs
      have HM := Lib.hid hm
      have HI := Lib.hid hi
      clear hs ha hm hi
      go_simp
      exact HK.out _ _ ⟨upd e 15 true, upd (upd (upd t 37 _) 38 _) 39 _, rfl, rfl, by rw [upd_self H13.out, upd_self H14.out]; exact HS.out.put ok (i := 15) rfl, HM.out.mark (by decide)⟩
    | 16, ho, hi, ha =>
      obtain rfl : _ = o := Option.some.inj ho
      have hi : e 16 = false := hi
      have T15 : t 39 = .pointer (some ⟨gr, m * 4, none⟩) := hs.val 15 rfl (ha { on := 15, ground := .data } (by simp) rfl)
      have H15 := Lib.hid T15
      obtain rfl := hm.get 16 (by decide) hi
      refine wpOp_step (i := 16) rfl (fun K hK => ?_)
      have HK : Shut (∀ a w, _ → K a w) := hK
      clear hK ho
      have HS := Lib.hid hs
      have HM := Lib.hid hm
      have HI := Lib.hid hi
      clear hs ha hm hi
      go_simp
      exact HK.out _ _ ⟨upd e 16 true, upd (upd t 39 _) 40 _, rfl, rfl, by rw [upd_self H15.out]; exact HS.out.put ok (i := 16) rfl, HM.out.mark (by decide)⟩
    | 17, ho, hi, ha =>
      obtain rfl : _ = o := Option.some.inj ho
      have hi : e 17 = false := hi
      have T3 : t 27 = .slice (some ⟨gr, 0, none⟩) n c := hs.val 3 rfl (ha { on := 3, ground := .data } (by simp) rfl)
      have H3 := Lib.hid T3
      have T9 : t 33 = .int .i64 (ix : Int) := hs.val 9 rfl (ha { on := 9, ground := .data } (by simp) rfl)
      have H9 := Lib.hid T9
      refine wpOp_step (i := 17) rfl (fun K hK => ?_)
      have HK : Shut (∀ a w, _ → K a w) := hK
      clear hK ho
      have HS := Lib.hid hs
      have HM := Lib.hid hm
      have HI := Lib.hid hi
      clear hs ha hm hi
      go_simp
      exact HK.out _ _ ⟨upd e 17 true, upd (upd (upd t 27 _) 33 _) 41 _, rfl, rfl, by rw [upd_self H3.out, upd_self H9.out]; exact HS.out.put ok (i := 17) rfl, HM.out.mark (by decide)⟩
    | 18, ho, hi, ha =>
      obtain rfl : _ = o := Option.some.inj ho
      have hi : e 18 = false := hi
      have T17 : t 41 = .pointer (some ⟨gr, ix * 4, none⟩) := hs.val 17 rfl (ha { on := 17, ground := .data } (by simp) rfl)
      have H17 := Lib.hid T17
      have T16 : t 40 = .agg #[.int .i64 y.b, .int .i64 y.d, .int .i64 y.s, .int .i64 y.i] := hs.val 16 rfl (ha { on := 16, ground := .data } (by simp) rfl)
      have H16 := Lib.hid T16
      obtain rfl := hm.a hi
      have e3 : e 3 = true := ha { on := 3, ground := .phase } (by simp) rfl
      have e7 : e 7 = true := ha { on := 7, ground := .phase } (by simp) rfl
      have e9 : e 9 = true := ha { on := 9, ground := .phase } (by simp) rfl
      have e13 : e 13 = true := ha { on := 13, ground := .phase } (by simp) rfl
      have e16 : e 16 = true := ha { on := 16, ground := .data } (by simp) rfl
      have HALL : Hid (∀ r ∈ [3, 7, 9, 13, 16], e r = true) := by intro r hr; simp at hr; rcases hr with rfl | rfl | rfl | rfl | rfl <;> assumption
      clear e3 e7 e9 e13 e16
      refine wpOp_step (i := 18) rfl (fun K hK => ?_)
      have HK : Shut (∀ a w, _ → K a w) := hK
      clear hK ho
      have HS := Lib.hid hs
      have HM := Lib.hid hm
      have HI := Lib.hid hi
      clear hs ha hm hi
      go_simp
      exact HK.out _ _ ⟨upd e 18 true, (upd (upd t 41 _) 40 _), rfl, rfl, by rw [upd_self H17.out, upd_self H16.out]; exact HS.out.skip (i := 18) rfl, HM.out.done HALL.out⟩
    | k + 19, ho, hi, ha => simp at ho
  case done =>
    rintro lq_ aq_ wr ⟨e, t, rfl, rfl, hs, hm⟩ hr
    have hd := ready_done hr rfl (by decide +kernel)
    obtain rfl := hm.b (hd 18 (by decide))
    generalize t 24 = u24, t 25 = u25, t 26 = u26, t 27 = u27, t 28 = u28, t 29 = u29, t 30 = u30, t 31 = u31, t 32 = u32, t 33 = u33, t 34 = u34, t 35 = u35, t 36 = u36, t 37 = u37, t 38 = u38, t 39 = u39, t 40 = u40, t 41 = u41
    clear hs hm hd hr cb y0 y1 y2 y3 z0 z1 z2 z3 z4 z5 z6 z7 HA
    generalize ((((wD.setCell ⟨gr, ix * 4, none⟩ (.int .i64 y.b)).setCell ⟨gr, ix * 4 + 1, none⟩ (.int .i64 y.d)).setCell ⟨gr, ix * 4 + 2, none⟩ (.int .i64 y.s)).setCell ⟨gr, ix * 4 + 3, none⟩ (.int .i64 y.i)) = wE at *
    have cE := HP.out.at_.cell
    have fE := HP.out.at_.frozen
    have HT := Lib.hid (HP.out.cut (m := m) (by omega))
    have hcap : n ≤ c := by have q := own_cap HP.out.at_.row; rw [List.length_set, HEN.out] at q; exact q
    have hmc : (m : Int) ≤ (c : Int) := by omega
    have hmc' : m ≤ c := by omega
    have hc0 : ¬ c = 0 := by omega
    clear HP
    go_upto_region 7 with (fail)
    clear cE fE
    generalize (wE.setCell ⟨hb, 0, none⟩ (.slice (some ⟨gr, 0, none⟩) m c)) = wF at *
    have eT : tak l ix = (l.set ix y).take m := by
      unfold tak
      rw [HEN.out, HM.out, HEY.out]
    rw [← eT] at HT
    clear eT
    have cF := HT.out.at_.cell
    have hlenT : (tak l ix).length = m := by rw [tak_length, HEN.out, HM.out]
    have SK := sink_any (tak l ix) (by omega) B gr c 0 0 0 up (by omega) (by omega) wF (by have q := HT.out.at_.row; rw [hlenT] at q ⊢; exact q) HSP.out
    rw [hlenT, show ((0 : Nat) : Int) = 0 from rfl, HHH.out] at SK
    have E : Hid (∀ w4 l4, Row B gr m c l4 w4 → wF.grownBy w4 (some gr) → l4.Perm (tak l ix) → TkSt B hb gr c n m l4 x xb w w4) := fun w4 l4 r4 g4 p4 => HT.out.sunk r4 g4 (p4.length_eq.trans hlenT)
    clear hlenT HT
    go_wp2_with fail
    with_reducible refine SK.mono ?_
    rintro e w4 ⟨l4, rfl, r4, g4, p4, c4⟩
    have F := E.out w4 l4 r4 g4 p4
    have HS4 := Lib.hid p4
    have HC4 := Lib.hid c4.right
    clear E r4 g4 p4 c4 SK cF
    have E : Hid (∀ W, TkSt B hb gr c n m l4 x xb w W → HeapAt ((((W.setCell ⟨w.heap.size, 0, none⟩ (.int .i64 x.b)).setCell ⟨w.heap.size, 1, none⟩ (.int .i64 x.d)).setCell ⟨w.heap.size, 2, none⟩ (.int .i64 x.s)).setCell ⟨w.heap.size, 3, none⟩ (.int .i64 x.i)) B hb (.slice (some ⟨gr, 0, none⟩) m c) l4 ∧
        Off w hb (.slice (some ⟨gr, 0, none⟩) n c) ((((W.setCell ⟨w.heap.size, 0, none⟩ (.int .i64 x.b)).setCell ⟨w.heap.size, 1, none⟩ (.int .i64 x.d)).setCell ⟨w.heap.size, 2, none⟩ (.int .i64 x.s)).setCell ⟨w.heap.size, 3, none⟩ (.int .i64 x.i))) := fun W hW => hW.took _ _ _ _
    have HF := Lib.hid F
    obtain ⟨x0, x1, x2, x3, _, _, _, _, xz⟩ := cells4 F.x_
    obtain ⟨r0, r1, r2, r3, f0, f1, f2, f3, rz⟩ := cells4 F.r_
    clear F
    go_wp2
    refine bodyPost_ret (v := .tuple #[entV x, .bool true]) (by simp [results, Try.results108, go_sem, entV, r0, r1, r2, r3]) rfl ?_
    exact ⟨l4, rfl, (E.out _ HF.out).1, (E.out _ HF.out).2, HS4.out, HC4.out⟩
theorem take_popped (l : List En) (hl : l.length ≤ 1000) (h0 : 0 < l.length) (up : Bool) (B hb : Nat) (v : Value) (w : World) (h : HeapAt w B hb v l) (hr : Right l) :
    Calls Try.prog 108 #[.pointer (some ⟨hb, 0, none⟩), .bool (!up)] w (IsPopped B hb v l (nth l (pl l.length up 0)) w) := by
  obtain ⟨g, c, rfl, _, _⟩ := h.form h0
  refine (take_any l hl h0 up B hb g c w h hr).mono ?_
  rintro e w' ⟨l', he, ha, ho, hp, hq⟩
  exact ⟨he, _, l', ha, ho, hq, (List.Perm.cons _ hp).trans (tak_perm (pl_lt up (by omega))), fun q hq => hq⟩
theorem popMin_of (v : Value) (x : En) (b : Bool) (w : World) (L : ∀ w' : World, Below w.heap.size w w' → Calls Try.prog 108 #[v, .bool false] w' (Told x b w')) : Calls Try.prog 105 #[v] w (Told x b w) := by
  have B1 : Below w.heap.size w (w.alloc (.cells #[.int .i64 0, .int .i64 0, .int .i64 0, .int .i64 0] 32)) := (Below.refl _ _).alloc (Nat.le_refl _) _
  have L1 := L _ B1
  have HN := heap_alloc_new w (.cells #[.int .i64 0, .int .i64 0, .int .i64 0, .int .i64 0] 32)
  unfold Told entV at L1
  have HB1 := Lib.hid B1
  have HN1 := Lib.hid HN
  have hsz : w.heap.size < (w.alloc (.cells #[.int .i64 0, .int .i64 0, .int .i64 0, .int .i64 0] 32)).heap.size := by simp
  have HSZ := Lib.hid hsz
  clear L B1 HN hsz
  go_enter Try.func105, Try.ntmps105
  go_wp2_with fail
  with_reducible refine L1.mono ?_
  rintro e w2 ⟨rfl, b2⟩
  obtain ⟨r0, r1, r2, r3, f0, f1, f2, f3, rz⟩ := cells4 ((b2.block _ HSZ.out).trans HN1.out)
  have E : Hid (∀ v0 v1 v2 v3, Below w.heap.size w ((((w2.setCell ⟨w.heap.size, 0, none⟩ v0).setCell ⟨w.heap.size, 1, none⟩ v1).setCell ⟨w.heap.size, 2, none⟩ v2).setCell ⟨w.heap.size, 3, none⟩ v3)) := fun v0 v1 v2 v3 => below_set4 (HB1.out.trans (b2.mono (Nat.le_of_lt HSZ.out))) (Nat.le_refl _) v0 v1 v2 v3
  clear b2 L1
  go_wp2
  exact bodyPost_ret (v := .tuple #[entV x, .bool b]) (by simp [results, Try.results105, go_sem, entV, r0, r1, r2, r3]) rfl ⟨rfl, E.out _ _ _ _⟩
theorem popMin_none (v : Value) (w : World) (L : ∀ w' : World, Below w.heap.size w w' → Calls Try.prog 100 #[v] w' fun e w'' => e = .returned (.int .i64 0) ∧ w' = w'') : Calls Try.prog 105 #[v] w (Told zeroE false w) :=
  popMin_of v zeroE false w fun _ b => take_none v false _ fun w2 b2 => L w2 (b.trans (b2.mono b.size))
set_option maxHeartbeats 1000000 in
theorem popMin_at (l : List En) (hl : l.length ≤ 1000) (h0 : 0 < l.length) (B hb : Nat) (v : Value) (w : World) (h : HeapAt w B hb v l) (hr : Right l) : Calls Try.prog 105 #[.pointer (some ⟨hb, 0, none⟩)] w (IsPopped B hb v l (nth l (pl l.length true 0)) w) := by
  have B1 : Below w.heap.size w (w.alloc (.cells #[.int .i64 0, .int .i64 0, .int .i64 0, .int .i64 0] 32)) := (Below.refl _ _).alloc (Nat.le_refl _) _
  have HN := Lib.hid (heap_alloc_new w (.cells #[.int .i64 0, .int .i64 0, .int .i64 0, .int .i64 0] 32))
  have HZ : Hid (w.heap.size < (w.alloc (.cells #[.int .i64 0, .int .i64 0, .int .i64 0, .int .i64 0] 32)).heap.size) := by show _ < _; simp
  have TK := take_popped l hl h0 true B hb v _ (h.next B1) hr
  rw [show (!true) = false from rfl] at TK
  have HB1 := Lib.hid B1
  have hlt := h.lt
  have hvl : ∀ q, v.ownBlock = some q → q < w.heap.size := fun q hq => (h.row.lt q hq).2
  have HV := Lib.hid hvl
  generalize nth l (pl l.length true 0) = x at *
  clear h B1 hvl hr hl h0
  go_enter Try.func105, Try.ntmps105
  go_wp2_with fail
  with_reducible refine TK.mono ?_
  rintro e w2 ⟨rfl, hP⟩
  obtain ⟨r0, r1, r2, r3, f0, f1, f2, f3, rz⟩ := cells4 (hP.cells HN.out (by omega) (fun e => by have := HV.out _ e; omega))
  have E : Hid (∀ v0 v1 v2 v3, Popped B hb v l x w ((((w2.setCell ⟨w.heap.size, 0, none⟩ v0).setCell ⟨w.heap.size, 1, none⟩ v1).setCell ⟨w.heap.size, 2, none⟩ v2).setCell ⟨w.heap.size, 3, none⟩ v3)) := hP.result HB1.out HZ.out hlt HV.out
  clear hP TK
  unfold entV at *
  go_wp2
  exact bodyPost_ret (v := .tuple #[entV x, .bool true]) (by simp [results, Try.results105, go_sem, entV, r0, r1, r2, r3]) rfl ⟨rfl, E.out _ _ _ _⟩
theorem popMax_of (v : Value) (x : En) (b : Bool) (w : World) (L : ∀ w' : World, Below w.heap.size w w' → Calls Try.prog 108 #[v, .bool true] w' (Told x b w')) : Calls Try.prog 104 #[v] w (Told x b w) := by
  have B1 : Below w.heap.size w (w.alloc (.cells #[.int .i64 0, .int .i64 0, .int .i64 0, .int .i64 0] 32)) := (Below.refl _ _).alloc (Nat.le_refl _) _
  have L1 := L _ B1
  have HN := heap_alloc_new w (.cells #[.int .i64 0, .int .i64 0, .int .i64 0, .int .i64 0] 32)
  unfold Told entV at L1
  have HB1 := Lib.hid B1
  have HN1 := Lib.hid HN
  have hsz : w.heap.size < (w.alloc (.cells #[.int .i64 0, .int .i64 0, .int .i64 0, .int .i64 0] 32)).heap.size := by simp
  have HSZ := Lib.hid hsz
  clear L B1 HN hsz
  go_enter Try.func104, Try.ntmps104
  go_wp2_with fail
  with_reducible refine L1.mono ?_
  rintro e w2 ⟨rfl, b2⟩
  obtain ⟨r0, r1, r2, r3, f0, f1, f2, f3, rz⟩ := cells4 ((b2.block _ HSZ.out).trans HN1.out)
  have E : Hid (∀ v0 v1 v2 v3, Below w.heap.size w ((((w2.setCell ⟨w.heap.size, 0, none⟩ v0).setCell ⟨w.heap.size, 1, none⟩ v1).setCell ⟨w.heap.size, 2, none⟩ v2).setCell ⟨w.heap.size, 3, none⟩ v3)) := fun v0 v1 v2 v3 => below_set4 (HB1.out.trans (b2.mono (Nat.le_of_lt HSZ.out))) (Nat.le_refl _) v0 v1 v2 v3
  clear b2 L1
  go_wp2
  exact bodyPost_ret (v := .tuple #[entV x, .bool b]) (by simp [results, Try.results104, go_sem, entV, r0, r1, r2, r3]) rfl ⟨rfl, E.out _ _ _ _⟩
theorem popMax_none (v : Value) (w : World) (L : ∀ w' : World, Below w.heap.size w w' → Calls Try.prog 100 #[v] w' fun e w'' => e = .returned (.int .i64 0) ∧ w' = w'') : Calls Try.prog 104 #[v] w (Told zeroE false w) :=
  popMax_of v zeroE false w fun _ b => take_none v true _ fun w2 b2 => L w2 (b.trans (b2.mono b.size))
set_option maxHeartbeats 1000000 in
theorem popMax_at (l : List En) (hl : l.length ≤ 1000) (h0 : 0 < l.length) (B hb : Nat) (v : Value) (w : World) (h : HeapAt w B hb v l) (hr : Right l) : Calls Try.prog 104 #[.pointer (some ⟨hb, 0, none⟩)] w (IsPopped B hb v l (nth l (pl l.length false 0)) w) := by
  have B1 : Below w.heap.size w (w.alloc (.cells #[.int .i64 0, .int .i64 0, .int .i64 0, .int .i64 0] 32)) := (Below.refl _ _).alloc (Nat.le_refl _) _
  have HN := Lib.hid (heap_alloc_new w (.cells #[.int .i64 0, .int .i64 0, .int .i64 0, .int .i64 0] 32))
  have HZ : Hid (w.heap.size < (w.alloc (.cells #[.int .i64 0, .int .i64 0, .int .i64 0, .int .i64 0] 32)).heap.size) := by show _ < _; simp
  have TK := take_popped l hl h0 false B hb v _ (h.next B1) hr
  rw [show (!false) = true from rfl] at TK
  have HB1 := Lib.hid B1
  have hlt := h.lt
  have hvl : ∀ q, v.ownBlock = some q → q < w.heap.size := fun q hq => (h.row.lt q hq).2
  have HV := Lib.hid hvl
  generalize nth l (pl l.length false 0) = x at *
  clear h B1 hvl hr hl h0
  go_enter Try.func104, Try.ntmps104
  go_wp2_with fail
  with_reducible refine TK.mono ?_
  rintro e w2 ⟨rfl, hP⟩
  obtain ⟨r0, r1, r2, r3, f0, f1, f2, f3, rz⟩ := cells4 (hP.cells HN.out (by omega) (fun e => by have := HV.out _ e; omega))
  have E : Hid (∀ v0 v1 v2 v3, Popped B hb v l x w ((((w2.setCell ⟨w.heap.size, 0, none⟩ v0).setCell ⟨w.heap.size, 1, none⟩ v1).setCell ⟨w.heap.size, 2, none⟩ v2).setCell ⟨w.heap.size, 3, none⟩ v3)) := hP.result HB1.out HZ.out hlt HV.out
  clear hP TK
  unfold entV at *
  go_wp2
  exact bodyPost_ret (v := .tuple #[entV x, .bool true]) (by simp [results, Try.results104, go_sem, entV, r0, r1, r2, r3]) rfl ⟨rfl, E.out _ _ _ _⟩
theorem popMin_any (l : List En) (hl : l.length ≤ 1000) (h0 : 0 < l.length) (B hb : Nat) (v : Value) (w : World) (h : HeapAt w B hb v l) (hr : Right l) : Calls Try.prog 105 #[.pointer (some ⟨hb, 0, none⟩)] w (IsPopped B hb v l (nth l 0) w) := popMin_at l hl h0 B hb v w h hr
theorem popMax_any (l : List En) (hl : l.length ≤ 1000) (h0 : 0 < l.length) (B hb : Nat) (v : Value) (w : World) (h : HeapAt w B hb v l) (hr : Right l) : Calls Try.prog 104 #[.pointer (some ⟨hb, 0, none⟩)] w (IsPopped B hb v l (nth l (lastP l)) w) := popMax_at l hl h0 B hb v w h hr
end Go.Proofs.Ytiighhcilgjebaa.I
