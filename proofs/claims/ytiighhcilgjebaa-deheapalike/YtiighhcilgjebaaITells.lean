/-
  What tell, Min and Max do (layer 6).
-/
import Derived.Test.YtiighhcilgjebaaICalls
namespace Go.Proofs.Ytiighhcilgjebaa.I
set_option maxRecDepth 100000
open Go.RowKit Go.Sort

theorem place0_any (p : Option Addr) (n cap : Nat) (up : Bool) (h0 : 0 < n) (hn : n ≤ 10000) (w : World) :
    Calls Try.prog 79 #[.slice p n cap, .int .i64 0, .bool (!up)] w fun e w' => e = .returned (.int .i64 (pl n up 0 : Int)) ∧ w = w' := place_any p n cap 0 up (by omega) h0 hn w
theorem tell_none (v : Value) (hi : Bool) (w : World) (L : ∀ w' : World, Below w.heap.size w w' → Calls Try.prog 100 #[v] w' fun e w'' => e = .returned (.int .i64 0) ∧ w' = w'') : Calls Try.prog 107 #[v, .bool hi] w (Told zeroE false w) := by
  have L1 := L (w.alloc (.cells #[.int .i64 0, .int .i64 0, .int .i64 0, .int .i64 0] 32)) ((Below.refl _ _).alloc (Nat.le_refl _) _)
  clear L
  go_enter Try.func107, Try.ntmps107
  go_wp2_with fail
  with_reducible refine L1.mono ?_
  rintro e w' ⟨rfl, rfl⟩
  clear L1
  go_wp2
  exact bodyPost_ret (v := .tuple #[entV zeroE, .bool false]) (by simp [results, Try.results107, go_sem, entV, zeroE]) rfl ⟨rfl, (Below.refl _ _).alloc (Nat.le_refl _) _⟩
def planTe (hb g m n c : Nat) (hh : Bool) (x : En) : Plan := { ks := [0, 0, 0, 0, 0, 0, 0, 0, 0, 0, 0, 0, 2, 0], ds := [10, 11, 12, 13, 14, 15, 16, 17, 18, 19, 20, 21, 0, 5], vs := [.pointer (some ⟨hb, 0, none⟩), .pointer (some ⟨hb, 0, none⟩), .pointer (some ⟨hb, 0, none⟩), .slice (some ⟨g, 0, none⟩) n c, .pointer (some ⟨hb, 0, none⟩), .pointer (some ⟨hb, 0, none⟩), .pointer (some ⟨hb, 0, none⟩), .slice (some ⟨g, 0, none⟩) n c, .bool hh, .int .i64 (m : Int), .pointer (some ⟨g, m * 4, none⟩), .agg #[.int .i64 x.b, .int .i64 x.d, .int .i64 x.s, .int .i64 x.i], undef, .bool true], ss := [0, 0, 0, 0, 0, 0, 0, 0, 0, 0, 0, 0, 0, 0], zs := [#[], #[], #[], #[], #[], #[], #[], #[], #[], #[], #[], #[], #[], #[]], fs := [#[], #[], #[], #[], #[], #[], #[], #[], #[], #[], #[], #[], #[], #[]], ts := [0, 0, 0, 0, 0, 0, 0, 0, 0, 0, 0, 0, 0, 0] }
set_option maxHeartbeats 2000000 in
theorem tell_any (w : World) (B hb : Nat) (v : Value) (l : List En) (h0 : 0 < l.length) (hl : l.length ≤ 1000) (up : Bool) (h : HeapAt w B hb v l) : Calls Try.prog 107 #[.pointer (some ⟨hb, 0, none⟩), .bool (!up)] w (Told (nth l (pl l.length up 0)) true w) := by
  have B1 : Below w.heap.size w (w.alloc (.cells #[.int .i64 0, .int .i64 0, .int .i64 0, .int .i64 0] 32)) := (Below.refl _ _).alloc (Nat.le_refl _) _
  have L1 := len_any _ B hb v l (h.next B1)
  obtain ⟨g, c, rfl, hL, hg⟩ := h.form h0
  have LA := fun wr => (place0_any (some ⟨g, 0, none⟩) l.length c up h0 (by omega) wr).mono (fun e w' h => (⟨h.1, h.2 ▸ More.refl _⟩ : _ ∧ More wr w'))
  have hml := pl_lt (n := l.length) (k := 0) up (by omega)
  obtain ⟨a0, a1, a2, a3⟩ := (hL.next B1).nth hml
  have F : Hid (MaxSt w hb g (pl l.length up 0) l.length c (nth l (pl l.length up 0)) (w.alloc (.cells #[.int .i64 0, .int .i64 0, .int .i64 0, .int .i64 0] 32)).drew) :=
    MaxSt.next (MaxSt.make ⟨(h.next B1).cell, a0, a1, a2, a3⟩ (heap_alloc_new _ _) ⟨h.lt, hg⟩ B1) (Below.refl _ _).drew
  have HLA := Lib.hid LA
  generalize nth l (pl l.length up 0) = x at *
  generalize pl l.length up 0 = m at *
  generalize l.length = n at *
  generalize (!up) = hh at *
  have hn : ((n : Int) == 0) = false := by simp; omega
  have c1 : (0 : Int) ≤ (m : Int) := by omega
  have c2 : (m : Int) < (n : Int) := by omega
  clear h hL a0 a1 a2 a3 LA B1
  go_enter Try.func107, Try.ntmps107
  go_wp2_with fail
  with_reducible refine L1.mono ?_
  rintro e w' ⟨rfl, rfl⟩
  clear L1
  go_wp2
  have ok : (planTe hb g m n c hh x).ok = true := rfl
  refine region_inv (Inv := fun lq_ aq_ wr => ∃ (e : Nat → Bool) (t : Nat → Value), lq_ = #[e 0, e 1, e 2, e 3, e 4, e 5, e 6, e 7, e 8, e 9, e 10, e 11, e 12, e 13] ∧ aq_ = ⟨#[.pointer (some ⟨hb, 0, none⟩), .bool hh, undef, undef, .pointer (some ⟨w.heap.size, 0, none⟩), t 5, .pointer (some ⟨hb, 0, none⟩), .int .i64 (n : Int), .bool false, undef, t 10, t 11, t 12, t 13, t 14, t 15, t 16, t 17, t 18, t 19, t 20, t 21], []⟩ ∧ Vals (planTe hb g m n c hh x) e t ∧ MMax w hb g m n c x (fun j => e (if j ≤ 7 then j else j + 1)) wr) (by kernel_rfl) ?step ?start ?done
  case start => exact ⟨fun _ => false, fun j => if j = 5 then .bool false else undef, rfl, rfl, Vals.start _ _, ⟨fun _ => F.out, (fun h => by cases h), (fun h => by cases h)⟩⟩
  case step =>
    rintro lq_ aq_ wr ⟨e, t, rfl, rfl, hs, hm⟩ q_ o ho hi ha
    match q_, ho, hi, ha with
    | 0, ho, hi, ha =>
      obtain rfl : _ = o := Option.some.inj ho
      have hi : e 0 = false := hi
      refine wpOp_step (i := 0) rfl (fun K hK => ?_)
      have HK : Shut (∀ a w, _ → K a w) := hK
      clear hK ho
      have HS := Lib.hid hs
      have HM := Lib.hid hm
      have HI := Lib.hid hi
      clear hs ha hm hi
      go_simp
      exact HK.out _ _ ⟨upd e 0 true, upd t 10 _, rfl, rfl, by exact HS.out.put ok (i := 0) rfl, HM.out.of rfl (.inl rfl) (.inl rfl) (.inl rfl) (.inl rfl)⟩
    | 1, ho, hi, ha =>
      obtain rfl : _ = o := Option.some.inj ho
      have hi : e 1 = false := hi
      have T0 : t 10 = .pointer (some ⟨hb, 0, none⟩) := hs.val 0 rfl (ha { on := 0, ground := .data } (by simp) rfl)
      have H0 := Lib.hid T0
      refine wpOp_step (i := 1) rfl (fun K hK => ?_)
      have HK : Shut (∀ a w, _ → K a w) := hK
      clear hK ho
      have HS := Lib.hid hs
      have HM := Lib.hid hm
      have HI := Lib.hid hi
      clear hs ha hm hi
      go_simp
      exact HK.out _ _ ⟨upd e 1 true, upd (upd t 10 _) 11 _, rfl, rfl, by rw [upd_self H0.out]; exact HS.out.put ok (i := 1) rfl, HM.out.of rfl (.inl rfl) (.inl rfl) (.inl rfl) (.inl rfl)⟩
    | 2, ho, hi, ha =>
      obtain rfl : _ = o := Option.some.inj ho
      have hi : e 2 = false := hi
      have T1 : t 11 = .pointer (some ⟨hb, 0, none⟩) := hs.val 1 rfl (ha { on := 1, ground := .data } (by simp) rfl)
      have H1 := Lib.hid T1
      refine wpOp_step (i := 2) rfl (fun K hK => ?_)
      have HK : Shut (∀ a w, _ → K a w) := hK
      clear hK ho
      have HS := Lib.hid hs
      have HM := Lib.hid hm
      have HI := Lib.hid hi
      clear hs ha hm hi
      go_simp
      exact HK.out _ _ ⟨upd e 2 true, upd (upd t 11 _) 12 _, rfl, rfl, by rw [upd_self H1.out]; exact HS.out.put ok (i := 2) rfl, HM.out.of rfl (.inl rfl) (.inl rfl) (.inl rfl) (.inl rfl)⟩
    | 3, ho, hi, ha =>
      obtain rfl : _ = o := Option.some.inj ho
      have hi : e 3 = false := hi
      have T2 : t 12 = .pointer (some ⟨hb, 0, none⟩) := hs.val 2 rfl (ha { on := 2, ground := .data } (by simp) rfl)
      have H2 := Lib.hid T2
      obtain ⟨_, F⟩ := hm.st (.inl hi)
      obtain ⟨k0, k1, k2, k3, k4, q0, q1, q2, q3, f0, f1, f2, f3⟩ := F.cs
      clear F
      refine wpOp_step (i := 3) rfl (fun K hK => ?_)
      have HK : Shut (∀ a w, _ → K a w) := hK
      clear hK ho
      have HS := Lib.hid hs
      have HM := Lib.hid hm
      have HI := Lib.hid hi
      clear hs ha hm hi
      go_simp
      exact HK.out _ _ ⟨upd e 3 true, upd (upd t 12 _) 13 _, rfl, rfl, by rw [upd_self H2.out]; exact HS.out.put ok (i := 3) rfl, HM.out.of rfl (.inr rfl) (.inl rfl) (.inl rfl) (.inl rfl)⟩
    | 4, ho, hi, ha =>
      obtain rfl : _ = o := Option.some.inj ho
      have hi : e 4 = false := hi
      refine wpOp_step (i := 4) rfl (fun K hK => ?_)
      have HK : Shut (∀ a w, _ → K a w) := hK
      clear hK ho
      have HS := Lib.hid hs
      have HM := Lib.hid hm
      have HI := Lib.hid hi
      clear hs ha hm hi
      go_simp
      exact HK.out _ _ ⟨upd e 4 true, upd t 14 _, rfl, rfl, by exact HS.out.put ok (i := 4) rfl, HM.out.of rfl (.inl rfl) (.inl rfl) (.inl rfl) (.inl rfl)⟩
    | 5, ho, hi, ha =>
      obtain rfl : _ = o := Option.some.inj ho
      have hi : e 5 = false := hi
      have T4 : t 14 = .pointer (some ⟨hb, 0, none⟩) := hs.val 4 rfl (ha { on := 4, ground := .data } (by simp) rfl)
      have H4 := Lib.hid T4
      refine wpOp_step (i := 5) rfl (fun K hK => ?_)
      have HK : Shut (∀ a w, _ → K a w) := hK
      clear hK ho
      have HS := Lib.hid hs
      have HM := Lib.hid hm
      have HI := Lib.hid hi
      clear hs ha hm hi
      go_simp
      exact HK.out _ _ ⟨upd e 5 true, upd (upd t 14 _) 15 _, rfl, rfl, by rw [upd_self H4.out]; exact HS.out.put ok (i := 5) rfl, HM.out.of rfl (.inl rfl) (.inl rfl) (.inl rfl) (.inl rfl)⟩
    | 6, ho, hi, ha =>
      obtain rfl : _ = o := Option.some.inj ho
      have hi : e 6 = false := hi
      have T5 : t 15 = .pointer (some ⟨hb, 0, none⟩) := hs.val 5 rfl (ha { on := 5, ground := .data } (by simp) rfl)
      have H5 := Lib.hid T5
      refine wpOp_step (i := 6) rfl (fun K hK => ?_)
      have HK : Shut (∀ a w, _ → K a w) := hK
      clear hK ho
      have HS := Lib.hid hs
      have HM := Lib.hid hm
      have HI := Lib.hid hi
      clear hs ha hm hi
      go_simp
      exact HK.out _ _ ⟨upd e 6 true, upd (upd t 15 _) 16 _, rfl, rfl, by rw [upd_self H5.out]; exact HS.out.put ok (i := 6) rfl, HM.out.of rfl (.inl rfl) (.inl rfl) (.inl rfl) (.inl rfl)⟩
    | 7, ho, hi, ha =>
      obtain rfl : _ = o := Option.some.inj ho
      have hi : e 7 = false := hi
      have T6 : t 16 = .pointer (some ⟨hb, 0, none⟩) := hs.val 6 rfl (ha { on := 6, ground := .data } (by simp) rfl)
      have H6 := Lib.hid T6
      obtain ⟨_, F⟩ := hm.st (.inr (.inl hi))
      obtain ⟨k0, k1, k2, k3, k4, q0, q1, q2, q3, f0, f1, f2, f3⟩ := F.cs
      clear F
      refine wpOp_step (i := 7) rfl (fun K hK => ?_)
      have HK : Shut (∀ a w, _ → K a w) := hK
      clear hK ho
      have HS := Lib.hid hs
      have HM := Lib.hid hm
      have HI := Lib.hid hi
      clear hs ha hm hi
      go_simp
      exact HK.out _ _ ⟨upd e 7 true, upd (upd t 16 _) 17 _, rfl, rfl, by rw [upd_self H6.out]; exact HS.out.put ok (i := 7) rfl, HM.out.of rfl (.inl rfl) (.inr rfl) (.inl rfl) (.inl rfl)⟩
    | 8, ho, hi, ha =>
      obtain rfl : _ = o := Option.some.inj ho
      have hi : e 8 = false := hi
      refine wpOp_step (i := 8) rfl (fun K hK => ?_)
      have HK : Shut (∀ a w, _ → K a w) := hK
      clear hK ho
      have HS := Lib.hid hs
      have HM := Lib.hid hm
      have HI := Lib.hid hi
      clear hs ha hm hi
      go_simp
      exact HK.out _ _ ⟨upd e 8 true, upd t 18 _, rfl, rfl, by exact HS.out.put ok (i := 8) rfl, HM.out.of rfl (.inl rfl) (.inl rfl) (.inl rfl) (.inl rfl)⟩
    | 9, ho, hi, ha =>
      obtain rfl : _ = o := Option.some.inj ho
      have hi : e 9 = false := hi
      have T7 : t 17 = .slice (some ⟨g, 0, none⟩) n c := hs.val 7 rfl (ha { on := 7, ground := .data } (by simp) rfl)
      have H7 := Lib.hid T7
      have T8 : t 18 = .bool hh := hs.val 8 rfl (ha { on := 8, ground := .data } (by simp) rfl)
      have H8 := Lib.hid T8
      refine wpOp_step (i := 9) rfl (fun K hK => ?_)
      have HK : Shut (∀ a w, _ → K a w) := hK
      clear hK ho
      have HS := Lib.hid hs
      have HM := Lib.hid hm
      have HI := Lib.hid hi
      clear hs ha hm hi
      go_simp
      (with_reducible refine (HLA.out _).mono ?_)
      rintro e' w' ⟨rfl, m⟩
      go_wp2_with fail
      exact HK.out _ _ ⟨upd e 9 true, upd (upd (upd t 17 _) 18 _) 19 _, rfl, rfl, by rw [upd_self H7.out, upd_self H8.out]; exact HS.out.put ok (i := 9) rfl, (HM.out.call HI.out m.below).of rfl (.inl rfl) (.inl rfl) (.inl rfl) (.inl rfl)⟩
    | 10, ho, hi, ha =>
      obtain rfl : _ = o := Option.some.inj ho
      have hi : e 10 = false := hi
      have T3 : t 13 = .slice (some ⟨g, 0, none⟩) n c := hs.val 3 rfl (ha { on := 3, ground := .data } (by simp) rfl)
      have H3 := Lib.hid T3
      have T9 : t 19 = .int .i64 (m : Int) := hs.val 9 rfl (ha { on := 9, ground := .data } (by simp) rfl)
      have H9 := Lib.hid T9
      refine wpOp_step (i := 10) rfl (fun K hK => ?_)
      have HK : Shut (∀ a w, _ → K a w) := hK
      clear hK ho
      have HS := Lib.hid hs
      have HM := Lib.hid hm
      have HI := Lib.hid hi
      clear hs ha hm hi
      go_simp
      exact HK.out _ _ ⟨upd e 10 true, upd (upd (upd t 13 _) 19 _) 20 _, rfl, rfl, by rw [upd_self H3.out, upd_self H9.out]; exact HS.out.put ok (i := 10) rfl, HM.out.of rfl (.inl rfl) (.inl rfl) (.inl rfl) (.inl rfl)⟩
    | 11, ho, hi, ha =>
      obtain rfl : _ = o := Option.some.inj ho
      have hi : e 11 = false := hi
      have T10 : t 20 = .pointer (some ⟨g, m * 4, none⟩) := hs.val 10 rfl (ha { on := 10, ground := .data } (by simp) rfl)
      have H10 := Lib.hid T10
      obtain ⟨_, F⟩ := hm.st (.inr (.inr (.inr (.inl hi))))
      obtain ⟨k0, k1, k2, k3, k4, q0, q1, q2, q3, f0, f1, f2, f3⟩ := F.cs
      clear F
      refine wpOp_step (i := 11) rfl (fun K hK => ?_)
      have HK : Shut (∀ a w, _ → K a w) := hK
      clear hK ho
      have HS := Lib.hid hs
      have HM := Lib.hid hm
      have HI := Lib.hid hi
      clear hs ha hm hi
      go_simp
      exact HK.out _ _ ⟨upd e 11 true, upd (upd t 20 _) 21 _, rfl, rfl, by rw [upd_self H10.out]; exact HS.out.put ok (i := 11) rfl, HM.out.of rfl (.inl rfl) (.inl rfl) (.inl rfl) (.inr rfl)⟩
    | 12, ho, hi, ha =>
      obtain rfl : _ = o := Option.some.inj ho
      have hi : e 12 = false := hi
      have T11 : t 21 = .agg #[.int .i64 x.b, .int .i64 x.d, .int .i64 x.s, .int .i64 x.i] := hs.val 11 rfl (ha { on := 11, ground := .data } (by simp) rfl)
      have H11 := Lib.hid T11
      obtain ⟨_, F⟩ := hm.st (.inr (.inr (.inr (.inr hi))))
      obtain ⟨k0, k1, k2, k3, k4, q0, q1, q2, q3, f0, f1, f2, f3⟩ := F.cs
      clear F
      have e3 := Lib.hid (ha { on := 3, ground := .phase } (by simp) rfl)
      have e7 := Lib.hid (ha { on := 7, ground := .phase } (by simp) rfl)
      have e9 := Lib.hid (ha { on := 9, ground := .phase } (by simp) rfl)
      have e11 := Lib.hid (ha { on := 11, ground := .phase } (by simp) rfl)
      refine wpOp_step (i := 12) rfl (fun K hK => ?_)
      have HK : Shut (∀ a w, _ → K a w) := hK
      clear hK ho
      have HS := Lib.hid hs
      have HM := Lib.hid hm
      have HI := Lib.hid hi
      clear hs ha hm hi
      go_simp
      exact HK.out _ _ ⟨upd e 12 true, (upd t 21 _), rfl, rfl, by rw [upd_self H11.out]; exact HS.out.skip (i := 12) rfl, (HM.out.store HI.out e3.out e7.out e9.out e11.out).of rfl (.inl rfl) (.inl rfl) (.inl rfl) (.inl rfl)⟩
    | 13, ho, hi, ha =>
      obtain rfl : _ = o := Option.some.inj ho
      have hi : e 13 = false := hi
      refine wpOp_step (i := 13) rfl (fun K hK => ?_)
      have HK : Shut (∀ a w, _ → K a w) := hK
      clear hK ho
      have HS := Lib.hid hs
      have HM := Lib.hid hm
      have HI := Lib.hid hi
      clear hs ha hm hi
      go_simp
      exact HK.out _ _ ⟨upd e 13 true, upd t 5 _, rfl, rfl, by exact HS.out.put ok (i := 13) rfl, HM.out.of rfl (.inl rfl) (.inl rfl) (.inl rfl) (.inl rfl)⟩
    | k + 14, ho, hi, ha => simp at ho
  case done =>
    rintro lq_ aq_ wr ⟨e, t, rfl, rfl, hs, hm⟩ hr
    have hd := ready_done hr rfl (by decide +kernel)
    obtain ⟨wn, F, rfl⟩ := hm.b (hd 12 (by decide))
    have e13 : t 5 = .bool true := hs.val 13 rfl (hd 13 (by decide))
    clear hs hm hd hr
    obtain ⟨_, _, _, _, _, q0, q1, q2, q3, f0, f1, f2, f3⟩ := F.cs
    have HB := Lib.hid F.be
    clear F
    go_wp2
    exact bodyPost_ret (v := .tuple #[entV x, .bool true]) (by simp [results, Try.results107, go_sem, entV, q0, q1, q2, q3, e13]) rfl ⟨rfl, below_set4 HB.out (Nat.le_refl _) _ _ _ _⟩
theorem min_of (v : Value) (x : En) (b : Bool) (w : World) (L : ∀ w' : World, Below w.heap.size w w' → Calls Try.prog 107 #[v, .bool false] w' (Told x b w')) : Calls Try.prog 103 #[v] w (Told x b w) := by
  have B1 : Below w.heap.size w (w.alloc (.cells #[.int .i64 0, .int .i64 0, .int .i64 0, .int .i64 0] 32)) := (Below.refl _ _).alloc (Nat.le_refl _) _
  have L1 := L _ B1
  have HN := heap_alloc_new w (.cells #[.int .i64 0, .int .i64 0, .int .i64 0, .int .i64 0] 32)
  unfold Told entV at L1
  have HB1 := Lib.hid B1
  have HN1 := Lib.hid HN
  have hsz : w.heap.size < (w.alloc (.cells #[.int .i64 0, .int .i64 0, .int .i64 0, .int .i64 0] 32)).heap.size := by simp
  have HSZ := Lib.hid hsz
  clear L B1 HN hsz
  go_enter Try.func103, Try.ntmps103
  go_wp2_with fail
  with_reducible refine L1.mono ?_
  rintro e w2 ⟨rfl, b2⟩
  obtain ⟨r0, r1, r2, r3, f0, f1, f2, f3, rz⟩ := cells4 ((b2.block _ HSZ.out).trans HN1.out)
  have E : Hid (∀ v0 v1 v2 v3, Below w.heap.size w ((((w2.setCell ⟨w.heap.size, 0, none⟩ v0).setCell ⟨w.heap.size, 1, none⟩ v1).setCell ⟨w.heap.size, 2, none⟩ v2).setCell ⟨w.heap.size, 3, none⟩ v3)) := fun v0 v1 v2 v3 => below_set4 (HB1.out.trans (b2.mono (Nat.le_of_lt HSZ.out))) (Nat.le_refl _) v0 v1 v2 v3
  clear b2 L1
  go_wp2
  exact bodyPost_ret (v := .tuple #[entV x, .bool b]) (by simp [results, Try.results103, go_sem, entV, r0, r1, r2, r3]) rfl ⟨rfl, E.out _ _ _ _⟩
theorem max_of (v : Value) (x : En) (b : Bool) (w : World) (L : ∀ w' : World, Below w.heap.size w w' → Calls Try.prog 107 #[v, .bool true] w' (Told x b w')) : Calls Try.prog 102 #[v] w (Told x b w) := by
  have B1 : Below w.heap.size w (w.alloc (.cells #[.int .i64 0, .int .i64 0, .int .i64 0, .int .i64 0] 32)) := (Below.refl _ _).alloc (Nat.le_refl _) _
  have L1 := L _ B1
  have HN := heap_alloc_new w (.cells #[.int .i64 0, .int .i64 0, .int .i64 0, .int .i64 0] 32)
  unfold Told entV at L1
  have HB1 := Lib.hid B1
  have HN1 := Lib.hid HN
  have hsz : w.heap.size < (w.alloc (.cells #[.int .i64 0, .int .i64 0, .int .i64 0, .int .i64 0] 32)).heap.size := by simp
  have HSZ := Lib.hid hsz
  clear L B1 HN hsz
  go_enter Try.func102, Try.ntmps102
  go_wp2_with fail
  with_reducible refine L1.mono ?_
  rintro e w2 ⟨rfl, b2⟩
  obtain ⟨r0, r1, r2, r3, f0, f1, f2, f3, rz⟩ := cells4 ((b2.block _ HSZ.out).trans HN1.out)
  have E : Hid (∀ v0 v1 v2 v3, Below w.heap.size w ((((w2.setCell ⟨w.heap.size, 0, none⟩ v0).setCell ⟨w.heap.size, 1, none⟩ v1).setCell ⟨w.heap.size, 2, none⟩ v2).setCell ⟨w.heap.size, 3, none⟩ v3)) := fun v0 v1 v2 v3 => below_set4 (HB1.out.trans (b2.mono (Nat.le_of_lt HSZ.out))) (Nat.le_refl _) v0 v1 v2 v3
  clear b2 L1
  go_wp2
  exact bodyPost_ret (v := .tuple #[entV x, .bool b]) (by simp [results, Try.results102, go_sem, entV, r0, r1, r2, r3]) rfl ⟨rfl, E.out _ _ _ _⟩
theorem min_none (v : Value) (w : World) (L : ∀ w' : World, Below w.heap.size w w' → Calls Try.prog 100 #[v] w' fun e w'' => e = .returned (.int .i64 0) ∧ w' = w'') : Calls Try.prog 103 #[v] w (Told zeroE false w) :=
  min_of v zeroE false w fun _ b => tell_none v false _ fun w2 b2 => L w2 (b.trans (b2.mono b.size))
theorem max_none (v : Value) (w : World) (L : ∀ w' : World, Below w.heap.size w w' → Calls Try.prog 100 #[v] w' fun e w'' => e = .returned (.int .i64 0) ∧ w' = w'') : Calls Try.prog 102 #[v] w (Told zeroE false w) :=
  max_of v zeroE false w fun _ b => tell_none v true _ fun w2 b2 => L w2 (b.trans (b2.mono b.size))
theorem min_any (w : World) (B hb : Nat) (v : Value) (l : List En) (h0 : 0 < l.length) (hl : l.length ≤ 1000) (h : HeapAt w B hb v l) : Calls Try.prog 103 #[.pointer (some ⟨hb, 0, none⟩)] w (Told (nth l 0) true w) :=
  min_of _ _ _ w fun _ b => tell_any _ B hb v l h0 hl true (h.next b)
theorem max_any (w : World) (B hb : Nat) (v : Value) (l : List En) (h0 : 0 < l.length) (hl : l.length ≤ 1000) (h : HeapAt w B hb v l) : Calls Try.prog 102 #[.pointer (some ⟨hb, 0, none⟩)] w (Told (nth l (lastP l)) true w) :=
  max_of _ _ _ w fun _ b => tell_any _ B hb v l h0 hl false (h.next b)
end Go.Proofs.Ytiighhcilgjebaa.I
