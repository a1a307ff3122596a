/-
  What slices.EqualFunc does of rows and of sets, and package inst's Equal (layer 9).
-/
import Derived.Test.YtbadingdklenhaaGreatDoorInstEqA
namespace Go.Proofs.YtbadingdklenhaaGreatDoor
set_option maxRecDepth 100000
open Go.RowKit

set_option maxHeartbeats 2000000 in
theorem efRows_any (F G F' G' : Nat → Prop) (R S : List (List Int)) (u v : Value) (us vs : List Value) (w : World) (h1 : Rws F G w u R us) (h2 : Rws F' G' w v S vs) :
    Calls Tryz.prog 36 #[u, v, .func (.func 37) #[] #[]] w fun e w' => e = .returned (.bool (decide (R = S))) ∧ Drawn w w' := by
  obtain ⟨A, C, rfl, hC, hM⟩ := h1.form
  obtain ⟨A2, C2, rfl, hC2, hM2⟩ := h2.form
  unfold maxLen at hM hM2
  have H1 := Lib.hid h1
  have H2 := Lib.hid h2
  clear h1 h2
  by_cases hl : R.length = S.length
  · have HL := Lib.hid hl
    obtain ⟨T, hT⟩ : ∃ T, decide (R = S) = T := ⟨_, rfl⟩
    rw [hT]
    have HT := Lib.hid hT
    rw [← hl] at hC2 H2 ⊢
    clear hl hT
    go_enter Tryz.func36, Tryz.ntmps36
    go_wp2
    go_loopw [17] (fun i wr => ∃ (k : Nat), k ≤ R.length ∧ i = .int .i64 (k : Nat) ∧ Hid (Drawn w wr) ∧ Hid (decide (R.drop k = S.drop k) = T)) (fun i _ => R.length - (intOf i).toNat)
    case atStart => exact ⟨0, by omega, rfl, Drawn.refl _, HT.out⟩
    case round =>
      obtain ⟨k, hk, rfl, hD, hQ⟩ := hrel
      by_cases hlt : k < R.length
      · have hB := hD.out.below (B := w.heap.size)
        obtain ⟨b, off, r, A', C', rfl, _, hb, hr, c0, _, hC', hM', hI⟩ := (H1.out.next hB).get hlt
        obtain ⟨b2, off2, s, A2', C2', rfl, _, hb2, hs, d0, _, hC2', hM2', hI2⟩ := (H2.out.next hB).get (i := k) (by have := HL.out; omega)
        have hq := hQ.out
        rw [eq_drop hr hs] at hq
        have EQ := eq64_any G G' r s _ _ wr hI hI2
        have c01 : (0 : Int) ≤ (k : Int) := by omega
        have c02 : (k : Int) < (R.length : Int) := by omega
        have HD := hD
        clear hQ hr hs hD hB hI hI2
        go_wp2_with fail
        with_reducible refine EQ.mono ?_
        rintro e w1 ⟨rfl, hd⟩
        obtain ⟨nn, rfl⟩ := hd
        by_cases h : r = s
        · have HR : Hid (decide (R.drop (k + 1) = S.drop (k + 1)) = T) := by show _ = _; rw [← hq]; simp [h]
          rw [decide_eq_true h]
          clear hq h
          go_wp2
          go_roundw
          case rel => exact ⟨k + 1, by omega, by go_num, HD.out.more _, HR⟩
          case measure => simp [intOf]; omega
        · have HR : Hid (T = false) := by show _ = _; rw [← hq]; simp [h]
          rw [decide_eq_false h]
          clear hq h
          go_wp2
          go_ret
          exact ⟨by rw [HR.out]; rfl, HD.out.more _⟩
      · obtain rfl : k = R.length := by omega
        have hq := hQ.out
        rw [eq_done HL.out] at hq
        have HR : Hid (T = true) := hq.symm
        have HD := hD
        clear hq hQ hD
        go_wp2
        go_ret
        exact ⟨by rw [HR.out]; rfl, HD.out⟩
  · rw [eq_len hl]
    have hne : ((R.length : Int) == (S.length : Int)) = false := by rw [beq_eq_false_iff_ne]; omega
    clear hl
    go_enter Tryz.func36, Tryz.ntmps36
    go_wp2
    go_ret
    exact ⟨rfl, Drawn.refl _⟩

theorem same_any (G G' : Nat → Prop) (s t : Int × List Int) (u v : Value) (w : World) (h1 : Ints G w u s.2) (h2 : Ints G' w v t.2) :
    Calls Tryz.prog 39 #[.agg #[.int .i64 s.1, u], .agg #[.int .i64 t.1, v]] w fun e w' => e = .returned (.bool (decide (s = t))) ∧ Below w.heap.size w w' := by
  obtain ⟨s1, s2⟩ := s
  obtain ⟨t1, t2⟩ := t
  simp only at h1 h2 ⊢
  have nb := (new_below w (.cells #[.int .i64 s1, u] 71)).alloc (by simp) (.cells #[.int .i64 t1, v] 71)
  have EQ := eqInt_any G G' s2 t2 u v _ (h1.next nb) (h2.next nb)
  have HB := Lib.hid nb
  obtain ⟨A, C, rfl, hC, hM⟩ := h1.form
  obtain ⟨A2, C2, rfl, hC2, hM2⟩ := h2.form
  obtain ⟨T, hT⟩ : ∃ T, decide ((s1, s2) = (t1, t2)) = T := ⟨_, rfl⟩
  rw [hT]
  have HT := Lib.hid hT
  clear h1 h2 hT nb
  by_cases h : s1 = t1
  · subst h
    have HR : Hid (T = decide (s2 = t2)) := by show _ = _; rw [← HT.out, Bool.eq_iff_iff]; simp
    go_enter Tryz.func39, Tryz.ntmps39
    go_wp2_with fail
    with_reducible refine EQ.mono ?_
    rintro e w1 ⟨rfl, hd⟩
    have HB1 := Lib.hid (HB.out.trans hd.below)
    clear hd EQ
    go_wp2
    go_ret
    exact ⟨by rw [HR.out]; rfl, HB1.out⟩
  · have HR : Hid (T = false) := by show _ = _; rw [← HT.out]; simp [h]
    have hne : (s1 == t1) = false := by simpa using h
    clear EQ
    go_enter Tryz.func39, Tryz.ntmps39
    go_wp2
    go_ret
    exact ⟨by rw [HR.out]; rfl, HB.out⟩

set_option maxHeartbeats 2000000 in
theorem efSets_any (F G F' G' : Nat → Prop) (R S : List (Int × List Int)) (u v : Value) (us vs : List Value) (w : World) (h1 : Sts F G w u R us) (h2 : Sts F' G' w v S vs) :
    Calls Tryz.prog 38 #[u, v, .func (.func 39) #[] #[]] w fun e w' => e = .returned (.bool (decide (R = S))) ∧ Below w.heap.size w w' := by
  obtain ⟨A, C, rfl, hC, hM⟩ := h1.form
  obtain ⟨A2, C2, rfl, hC2, hM2⟩ := h2.form
  unfold maxLen at hM hM2
  have H1 := Lib.hid h1
  have H2 := Lib.hid h2
  clear h1 h2
  by_cases hl : R.length = S.length
  · have HL := Lib.hid hl
    obtain ⟨T, hT⟩ : ∃ T, decide (R = S) = T := ⟨_, rfl⟩
    rw [hT]
    have HT := Lib.hid hT
    rw [← hl] at hC2 H2 ⊢
    clear hl hT
    go_enter Tryz.func38, Tryz.ntmps38
    go_wp2
    go_loopw [17, 8, 9] (fun i _ _ wr => ∃ (k : Nat), k ≤ R.length ∧ i = .int .i64 (k : Nat) ∧ Hid (Below w.heap.size w wr) ∧ Hid (decide (R.drop k = S.drop k) = T)) (fun i _ _ _ => R.length - (intOf i).toNat)
    case atStart => exact ⟨0, by omega, rfl, Below.refl _ _, HT.out⟩
    case round =>
      obtain ⟨k, hk, rfl, hB, hQ⟩ := hrel
      by_cases hlt : k < R.length
      · obtain ⟨b, off, r, A', C', rfl, _, hb, hr, c0, c1, _, hC', hM', hI⟩ := (H1.out.next hB.out).get hlt
        obtain ⟨b2, off2, s, A2', C2', rfl, _, hb2, hs, d0, d1, _, hC2', hM2', hI2⟩ := (H2.out.next hB.out).get (i := k) (by have := HL.out; omega)
        have hq := hQ.out
        rw [eq_drop hr hs] at hq
        have nb := (new_below wr (.cells #[.int .i64 r.1, .slice A' r.2.length C'] 71)).alloc (by simp) (.cells #[.int .i64 s.1, .slice A2' s.2.length C2'] 71)
        have EQ := same_any G G' r s _ _ _ (hI.next nb) (hI2.next nb)
        have HB2 := Lib.hid (on hB.out nb)
        have c01 : (0 : Int) ≤ (k : Int) := by omega
        have c02 : (k : Int) < (R.length : Int) := by omega
        clear hQ hr hs hB hI hI2 nb
        go_wp2_with fail
        with_reducible refine EQ.mono ?_
        rintro e w1 ⟨rfl, b1⟩
        have HB3 := Lib.hid (on HB2.out b1)
        clear EQ b1
        by_cases h : r = s
        · have HR : Hid (decide (R.drop (k + 1) = S.drop (k + 1)) = T) := by show _ = _; rw [← hq]; simp [h]
          rw [decide_eq_true h]
          clear hq h
          go_wp2
          go_roundw
          case rel => exact ⟨k + 1, by omega, by go_num, HB3, HR⟩
          case measure => simp [intOf]; omega
        · have HR : Hid (T = false) := by show _ = _; rw [← hq]; simp [h]
          rw [decide_eq_false h]
          clear hq h
          go_wp2
          go_ret
          exact ⟨by rw [HR.out]; rfl, HB3.out⟩
      · obtain rfl : k = R.length := by omega
        have hq := hQ.out
        rw [eq_done HL.out] at hq
        have HR : Hid (T = true) := hq.symm
        clear hq hQ
        go_wp2
        go_ret
        exact ⟨by rw [HR.out]; rfl, hB.out⟩
  · rw [eq_len hl]
    have hne : ((R.length : Int) == (S.length : Int)) = false := by rw [beq_eq_false_iff_ne]; omega
    clear hl
    go_enter Tryz.func38, Tryz.ntmps38
    go_wp2
    go_ret
    exact ⟨rfl, Below.refl _ _⟩

set_option maxHeartbeats 4000000 in
theorem equal_any (F G F' G' : Nat → Prop) (I J : In) (u v : Value) (w : World) (h1 : Ins F G w u I) (h2 : Ins F' G' w v J) :
    Calls Tryz.prog 15 #[u, v] w fun e w' => e = .returned (.bool (In.eqI I J)) ∧ Below w.heap.size w w' := by
  obtain ⟨vi, vc, vs, uc, us, rfl, hi, hc, hs⟩ := h1.form
  obtain ⟨xi, xc, xs, yc, ys, rfl, ji, jc, js⟩ := h2.form
  have nb := (new_below w (.cells #[.int .i64 I.kind, .int .i64 I.cap, vi, vc, .int .i64 I.size, vs] 33)).alloc (by simp) (.cells #[.int .i64 J.kind, .int .i64 J.cap, xi, xc, .int .i64 J.size, xs] 33)
  have HX := Lib.hid ((ibox_new w (.int .i64 I.kind) (.int .i64 I.cap) vi vc (.int .i64 I.size) vs 33).next (new_below _ (.cells #[.int .i64 J.kind, .int .i64 J.cap, xi, xc, .int .i64 J.size, xs] 33)))
  have HY := Lib.hid (ibox_new (w.alloc (.cells #[.int .i64 I.kind, .int .i64 I.cap, vi, vc, .int .i64 I.size, vs] 33)) (.int .i64 J.kind) (.int .i64 J.cap) xi xc (.int .i64 J.size) xs 33)
  rw [World.size_alloc] at HY
  have E1 := fun W a b => eqItem_any F F' I.items J.items vi xi W a b
  have E2 := fun W a b => efRows_any F G F' G' I.cost J.cost vc xc uc yc W a b
  have E3 := fun W a b => efSets_any F G F' G' I.sets J.sets vs xs us ys W a b
  obtain ⟨A0, C0, rfl, _, _⟩ := hi.form
  obtain ⟨A, C, rfl, _, _⟩ := hc.form
  obtain ⟨A2, C2, rfl, _, _⟩ := hs.form
  obtain ⟨A3, C3, rfl, _, _⟩ := ji.form
  obtain ⟨A4, C4, rfl, _, _⟩ := jc.form
  obtain ⟨A5, C5, rfl, _, _⟩ := js.form
  have HI := Lib.hid (hi.next nb)
  have HC := Lib.hid (hc.next nb)
  have HS := Lib.hid (hs.next nb)
  have JI := Lib.hid (ji.next nb)
  have JC := Lib.hid (jc.next nb)
  have JS := Lib.hid (js.next nb)
  have HB := Lib.hid nb
  obtain ⟨T, hT⟩ : ∃ T, In.eqI I J = T := ⟨_, rfl⟩
  rw [hT]
  unfold In.eqI at hT
  have HT := Lib.hid hT
  clear h1 h2 hi hc hs ji jc js nb hT
  by_cases k1 : I.kind = J.kind
  · by_cases k2 : I.cap = J.cap
    · by_cases k3 : I.size = J.size
      · have HR : Hid ((decide (I.items = J.items) && decide (I.cost = J.cost) && decide (I.sets = J.sets)) = T) := by show _ = _; rw [← HT.out]; simp [k1, k2, k3]
        rw [k1, k2, k3] at HX HY HB HI HC HS JI JC JS ⊢
        clear HT k1 k2 k3
        go_enter Tryz.func15, Tryz.ntmps15
        go_wp2_with fail
        with_reducible refine (E1 _ HI.out JI.out).mono ?_
        rintro e w1 ⟨rfl, hd⟩
        have b1 := hd.below (B := (w.heap.size + 1 + 1))
        have b1' := hd.below (B := w.heap.size)
        have X1 := HX.out.held (b1.block w.heap.size (by omega))
        have Y1 := HY.out.held (b1.block (w.heap.size + 1) (by omega))
        have HB1 := Lib.hid (HB.out.trans b1')
        have HC1 := Lib.hid (HC.out.next hd.below)
        have HS1 := Lib.hid (HS.out.next hd.below)
        have JC1 := Lib.hid (JC.out.next hd.below)
        have JS1 := Lib.hid (JS.out.next hd.below)
        obtain ⟨x0, x1, x2, x3, x4, x5⟩ := X1
        obtain ⟨y0, y1, y2, y3, y4, y5⟩ := Y1
        clear hd b1 b1' E1 HI JI HC HS JC JS HB
        by_cases i1 : I.items = J.items
        · have HR1 : Hid ((decide (I.cost = J.cost) && decide (I.sets = J.sets)) = T) := by show _ = _; rw [← HR.out]; simp [i1]
          rw [decide_eq_true i1]
          clear i1 HR
          go_wp2_with fail
          with_reducible refine (E2 _ HC1.out JC1.out).mono ?_
          rintro e w2 ⟨rfl, hd⟩
          have b1 := hd.below (B := w1.heap.size)
          have X1 := (IBox.mk x0 x1 x2 x3 x4 x5).next b1
          have Y1 := (IBox.mk y0 y1 y2 y3 y4 y5).next b1
          have HB2 := Lib.hid (HB1.out.trans (hd.below (B := w.heap.size)))
          have HS2 := Lib.hid (HS1.out.next b1)
          have JS2 := Lib.hid (JS1.out.next b1)
          clear x0 x1 x2 x3 x4 x5 y0 y1 y2 y3 y4 y5
          obtain ⟨x0, x1, x2, x3, x4, x5⟩ := X1
          obtain ⟨y0, y1, y2, y3, y4, y5⟩ := Y1
          clear hd b1 E2 HC1 JC1 HS1 JS1 HB1
          by_cases i2 : I.cost = J.cost
          · have HR2 : Hid (decide (I.sets = J.sets) = T) := by show _ = _; rw [← HR1.out]; simp [i2]
            rw [decide_eq_true i2]
            clear i2 HR1
            go_wp2_with fail
            with_reducible refine (E3 _ HS2.out JS2.out).mono ?_
            rintro e w3 ⟨rfl, b3⟩
            have HB3 := Lib.hid (on HB2.out b3)
            clear b3 E3 HS2 JS2
            rw [HR2.out]
            clear x0 x1 x2 x3 x4 x5 y0 y1 y2 y3 y4 y5
            go_wp2
            go_ret
            exact ⟨rfl, HB3.out⟩
          · have HR2 : Hid (T = false) := by show _ = _; rw [← HR1.out]; simp [i2]
            rw [decide_eq_false i2]
            clear i2 HR1
            go_wp2
            go_ret
            exact ⟨by rw [HR2.out]; rfl, HB2.out⟩
        · have HR1 : Hid (T = false) := by show _ = _; rw [← HR.out]; simp [i1]
          rw [decide_eq_false i1]
          clear i1 HR
          go_wp2
          go_ret
          exact ⟨by rw [HR1.out]; rfl, HB1.out⟩
      · have HR : Hid (T = false) := by show _ = _; rw [← HT.out]; simp [k3]
        have hne : (I.size == J.size) = false := by simpa using k3
        rw [k1, k2] at HB ⊢
        clear HT HI HC HS JI JC JS k1 k2 HX HY
        go_enter Tryz.func15, Tryz.ntmps15
        go_wp2
        go_ret
        exact ⟨by rw [HR.out]; rfl, HB.out⟩
    · have HR : Hid (T = false) := by show _ = _; rw [← HT.out]; simp [k2]
      have hne : (I.cap == J.cap) = false := by simpa using k2
      rw [k1] at HB ⊢
      clear HT HI HC HS JI JC JS k1 HX HY
      go_enter Tryz.func15, Tryz.ntmps15
      go_wp2
      go_ret
      exact ⟨by rw [HR.out]; rfl, HB.out⟩
  · have HR : Hid (T = false) := by show _ = _; rw [← HT.out]; simp [k1]
    have hne : (I.kind == J.kind) = false := by simpa using k1
    clear HT HI HC HS JI JC JS HX HY
    go_enter Tryz.func15, Tryz.ntmps15
    go_wp2
    go_ret
    exact ⟨by rw [HR.out]; rfl, HB.out⟩
end Go.Proofs.YtbadingdklenhaaGreatDoor
