/-
  What each call of package ratio (layer 2) does, first part: common, Good, Of, lowest, Make. Nothing that was in memory before turns.
-/
import Derived.Test.YtjaabjehegcnaaaDoorNumWalks3
import Derived.Test.YtjaabjehegcnaaaDoorRatioMath
namespace Go.Proofs.YtjaabjehegcnaaaDoor
set_option maxRecDepth 100000
open Go.RowKit

theorem new_below (w : World) (o : Obj) : Below w.heap.size w (w.alloc o) := (Below.refl _ _).alloc (Nat.le_refl _) _
theorem ret_bool {a b : Bool} (h : a = b) : Ending.returned (.bool a) = .returned (.bool b) := by rw [h]

theorem kwrap_in {x : Int} (h : I64 x) : IntKind.i64.wrap x = x := by obtain ⟨h0, h1⟩ := h; rw [IntKind.wrap_i64]; omega

/-- A result that is a ratio, in a block of its own. -/
structure RBox (n : Nat) (a b : Int) (w : World) : Prop where
  mk ::
  c0 : w.cell? ⟨n, 0, none⟩ = some (.int .i64 a)
  c1 : w.cell? ⟨n, 1, none⟩ = some (.int .i64 b)
  f0 : w.frozen? ⟨n, 0, none⟩ = false
  f1 : w.frozen? ⟨n, 1, none⟩ = false
  size : n < w.heap.size
theorem RBox.next {n : Nat} {a b : Int} {w w' : World} (h : RBox n a b w) (hb : Below w.heap.size w w') : RBox n a b w' :=
  ⟨by rw [hb.cell (by exact h.size)]; exact h.c0, by rw [hb.cell (by exact h.size)]; exact h.c1, by rw [hb.frozen (by exact h.size)]; exact h.f0, by rw [hb.frozen (by exact h.size)]; exact h.f1, Nat.lt_of_lt_of_le h.size hb.size⟩
theorem rbox_new (w : World) (a b : Int) (t : TypeId) : RBox w.heap.size a b (w.alloc (.cells #[.int .i64 a, .int .i64 b] t)) :=
  ⟨by simp [go_sem], by simp [go_sem], by simp [go_sem], by simp [go_sem], by simp⟩
theorem RBox.drew {n : Nat} {a b : Int} {w : World} (h : RBox n a b w) (k : Nat) : RBox n a b (w.drewN k) := h.next (below_drewN (Below.refl _ _) _)

theorem common_any (n d : Int) (hn : I64 n) (hd : I64 d) (h : 0 < d) (w : World) :
    Calls Tryd.prog 42 #[.int .i64 n, .int .i64 d] w fun e w' => e = .returned (.int .i64 (n.gcd d : Int)) ∧ Below w.heap.size w w' := by
  have hf : I64 (n.gcd d : Int) := by
    have := gcd_le_right (n := n) (d := d) (by omega)
    unfold I64 at *; omega
  have G := gcd_any n d hn hd
  rw [(fit_yes hf).1, (fit_yes hf).2] at G
  clear hf
  go_enter Tryd.func42, Tryd.ntmps42
  go_wp2_with fail
  with_reducible refine (G _).mono ?_
  rintro e w1 ⟨rfl, b1⟩
  go_wp2
  go_ret
  exact ⟨rfl, b1⟩

theorem good_any (n d : Int) (hn : I64 n) (hd : I64 d) (w : World) :
    Calls Tryd.prog 14 #[.agg #[.int .i64 n, .int .i64 d]] w fun e w' => e = .returned (.bool (goodB n d)) ∧ Below w.heap.size w w' := by
  by_cases h : 0 < d
  · have C := common_any n d hn hd h
    have e1 : (((n.gcd d : Nat) : Int) == 1) = goodB n d := by
      unfold goodB; simp [h, Bool.beq_eq_decide_eq]; omega
    have E1 := Lib.hid e1
    clear e1
    go_enter Tryd.func14, Tryd.ntmps14
    go_wp2_with fail
    with_reducible refine (C _).mono ?_
    rintro e w1 ⟨rfl, b1⟩
    go_wp2
    go_ret
    exact ⟨ret_bool E1.out, on (new_below w _) b1⟩
  · have e1 : goodB n d = false := by unfold goodB; simp [h]
    rw [e1]
    go_enter Tryd.func14, Tryd.ntmps14
    go_wp2
    go_ret
    exact ⟨rfl, new_below w _⟩

theorem of_ratio (n : Int) (w : World) :
    Calls Tryd.prog 16 #[.int .i64 n] w fun e w' => e = .returned (.agg #[.int .i64 n, .int .i64 1]) ∧ Below w.heap.size w w' := by
  go_enter Tryd.func16, Tryd.ntmps16
  go_wp2
  exact bodyPost_ret (v := .agg #[.int .i64 n, .int .i64 1]) (by simp [results, Tryd.results16, go_sem]) rfl ⟨rfl, new_below w _⟩

theorem neg_no (a : Int) (ha : I64 a) (h : ¬ I64 (-a)) (w : World) :
    Calls Tryd.prog 61 #[.int .i64 a] w fun e w' => e = .returned (.tuple #[.int .i64 0, .bool false]) ∧ Below w.heap.size w w' := by
  have := neg_any a ha w
  rw [(fit_no h).1, (fit_no h).2] at this
  exact this
theorem neg_yes (a : Int) (ha : I64 a) (h : I64 (-a)) (w : World) :
    Calls Tryd.prog 61 #[.int .i64 a] w fun e w' => e = .returned (.tuple #[.int .i64 (-a), .bool true]) ∧ Below w.heap.size w w' := by
  have := neg_any a ha w
  rw [(fit_yes h).1, (fit_yes h).2] at this
  exact this

/-- What Make and lowest answer. -/
def mkV (n d : Int) : Value := .tuple #[.agg #[.int .i64 (mkN n d), .int .i64 (mkD n d)], .bool (mkB n d)]
theorem mkV_is {n d a b : Int} {c : Bool} (h1 : mkN n d = a) (h2 : mkD n d = b) (h3 : mkB n d = c) : mkV n d = .tuple #[.agg #[.int .i64 a, .int .i64 b], .bool c] := by
  unfold mkV; rw [h1, h2, h3]

set_option maxHeartbeats 1000000 in
theorem lowest_any (n d : Int) (hn : I64 n) (hd : I64 d) (h0 : d ≠ 0) (w : World) :
    Calls Tryd.prog 37 #[.int .i64 n, .int .i64 d] w fun e w' => e = .returned (mkV n d) ∧ Below w.heap.size w w' := by
  have hne : (d == 0) = false := by simp [h0]
  by_cases hf : I64 (n.gcd d : Int)
  · have G := gcd_any n d hn hd
    rw [(fit_yes hf).1, (fit_yes hf).2] at G
    have t1 := tdiv_gcd_left n d
    have t2 := tdiv_gcd_right n d
    have i1 := ndiv_in h0 hn
    have i2 := ddiv_in (n := n) h0 hd
    have hs := ddiv_sign (n := n) h0
    have hq0 := ddiv_ne (n := n) h0
    have hg0 := gcd_pos (n := n) h0
    obtain ⟨g, hg⟩ : ∃ g : Int, (n.gcd d : Int) = g := ⟨_, rfl⟩
    have hgp : 0 < g := by omega
    have hgne : ¬ g = 0 := by omega
    by_cases hup : 0 < d
    · obtain ⟨e1, e2, e3⟩ := mk_up hup hn hd
      rw [hg] at e1 e2 t1 t2 i1 i2 hs hq0 G
      rw [mkV_is e1 e2 e3]
      have hq := hs.2 hup
      have W1 := kwrap_in i1
      have W2 := kwrap_in i2
      clear e1 e2 e3 hs hup hf hg hg0 hq0
      obtain ⟨p, hp⟩ : ∃ p, n / g = p := ⟨_, rfl⟩
      obtain ⟨q, hqq⟩ : ∃ q, d / g = q := ⟨_, rfl⟩
      rw [hp] at t1 W1 i1 ⊢
      rw [hqq] at t2 W2 i2 hq ⊢
      clear hp hqq
      go_enter Tryd.func37, Tryd.ntmps37
      go_wp2_with fail
      with_reducible refine (G _).mono ?_
      rintro e w1 ⟨rfl, b1⟩
      obtain ⟨c0, c1, f0, f1, hz⟩ := (rbox_new w 0 0 _).next b1
      have B1 : Below w.heap.size w w1 := on (new_below w _) b1
      clear b1
      go_wp2
      go_quiet (fail)
      go_wp2
      exact bodyPost_ret (v := .tuple #[.agg #[.int .i64 p, .int .i64 q], .bool true]) (by simp [results, Tryd.results37, go_sem, c0, c1]) rfl ⟨rfl, ((below_drewN B1 _).setCell (Nat.le_refl _) _).setCell (Nat.le_refl _) _⟩
    · have hdn : d < 0 := by omega
      obtain ⟨m1, m2⟩ := mk_down (n := n) hdn
      rw [hg] at m1 m2 t1 t2 i1 i2 hs hq0 G
      have hq : d / g < 0 := by omega
      have W1 := kwrap_in i1
      have W2 := kwrap_in i2
      clear hs hf hg hg0 hq0
      obtain ⟨p, hp⟩ : ∃ p, n / g = p := ⟨_, rfl⟩
      obtain ⟨q, hqq⟩ : ∃ q, d / g = q := ⟨_, rfl⟩
      rw [hp] at t1 W1 i1 m1
      rw [hqq] at t2 W2 i2 hq m2
      clear hp hqq
      by_cases hP : I64 (-p)
      · by_cases hQ : I64 (-q)
        · have e := mk_yes (n := n) h0 (by rw [m1]; exact hP) (by rw [m2]; exact hQ)
          rw [m1, m2] at e
          rw [mkV_is e.1 e.2.1 e.2.2]
          clear e m1 m2
          go_enter Tryd.func37, Tryd.ntmps37
          go_wp2_with fail
          with_reducible refine (G _).mono ?_
          rintro e w1 ⟨rfl, b1⟩
          have R1 := (rbox_new w 0 0 _).next b1
          have B1 : Below w.heap.size w w1 := on (new_below w _) b1
          clear b1
          go_wp2
          go_quiet (fail)
          go_wp2_with fail
          with_reducible refine (neg_yes p i1 hP _).mono ?_
          rintro e w2 ⟨rfl, b2⟩
          have R2 := (R1.drew _).next b2
          have B2 : Below w.heap.size w w2 := on (below_drewN B1 _) b2
          clear b2 R1 B1
          go_wp2_with fail
          with_reducible refine (neg_yes q i2 hQ _).mono ?_
          rintro e w3 ⟨rfl, b3⟩
          have B3 : Below w.heap.size w w3 := on B2 b3
          obtain ⟨c0, c1, f0, f1, hz⟩ := R2.next b3
          clear b3 R2 B2
          go_wp2
          exact bodyPost_ret (v := .tuple #[.agg #[.int .i64 (-p), .int .i64 (-q)], .bool true]) (by simp [results, Tryd.results37, go_sem, c0, c1]) rfl ⟨rfl, (B3.setCell (Nat.le_refl _) _).setCell (Nat.le_refl _) _⟩
        · have e := mk_no (n := n) (d := d) (fun hh => hQ (by rw [← m2]; exact hh.2.2))
          rw [mkV_is e.1 e.2.1 e.2.2]
          clear e m1 m2
          go_enter Tryd.func37, Tryd.ntmps37
          go_wp2_with fail
          with_reducible refine (G _).mono ?_
          rintro e w1 ⟨rfl, b1⟩
          have R1 := (rbox_new w 0 0 _).next b1
          have B1 : Below w.heap.size w w1 := on (new_below w _) b1
          clear b1
          go_wp2
          go_quiet (fail)
          go_wp2_with fail
          with_reducible refine (neg_yes p i1 hP _).mono ?_
          rintro e w2 ⟨rfl, b2⟩
          have R2 := (R1.drew _).next b2
          have B2 : Below w.heap.size w w2 := on (below_drewN B1 _) b2
          clear b2 R1 B1
          go_wp2_with fail
          with_reducible refine (neg_no q i2 hQ _).mono ?_
          rintro e w3 ⟨rfl, b3⟩
          have B3 : Below w.heap.size w w3 := on B2 b3
          obtain ⟨c0, c1, f0, f1, hz⟩ := R2.next b3
          clear b3 R2 B2
          go_wp2
          exact bodyPost_ret (v := .tuple #[.agg #[.int .i64 0, .int .i64 0], .bool false]) (by simp [results, Tryd.results37, go_sem, c0, c1]) rfl ⟨rfl, (B3.setCell (Nat.le_refl _) _).setCell (Nat.le_refl _) _⟩
      · have e := mk_no (n := n) (d := d) (fun hh => hP (by rw [← m1]; exact hh.2.1))
        rw [mkV_is e.1 e.2.1 e.2.2]
        clear e m1 m2
        obtain ⟨u, v, N⟩ : ∃ u v, ∀ w, Calls Tryd.prog 61 #[.int .i64 q] w fun e w' => e = .returned (.tuple #[.int .i64 u, .bool v]) ∧ Below w.heap.size w w' := ⟨_, _, neg_any q i2⟩
        go_enter Tryd.func37, Tryd.ntmps37
        go_wp2_with fail
        with_reducible refine (G _).mono ?_
        rintro e w1 ⟨rfl, b1⟩
        have R1 := (rbox_new w 0 0 _).next b1
        have B1 : Below w.heap.size w w1 := on (new_below w _) b1
        clear b1
        go_wp2
        go_quiet (fail)
        go_wp2_with fail
        with_reducible refine (neg_no p i1 hP _).mono ?_
        rintro e w2 ⟨rfl, b2⟩
        have R2 := (R1.drew _).next b2
        have B2 : Below w.heap.size w w2 := on (below_drewN B1 _) b2
        clear b2 R1 B1
        go_wp2_with fail
        with_reducible refine (N _).mono ?_
        rintro e w3 ⟨rfl, b3⟩
        have B3 : Below w.heap.size w w3 := on B2 b3
        obtain ⟨c0, c1, f0, f1, hz⟩ := R2.next b3
        clear b3 R2 B2
        go_wp2
        exact bodyPost_ret (v := .tuple #[.agg #[.int .i64 0, .int .i64 0], .bool false]) (by simp [results, Tryd.results37, go_sem, c0, c1]) rfl ⟨rfl, (B3.setCell (Nat.le_refl _) _).setCell (Nat.le_refl _) _⟩
  · have G := gcd_any n d hn hd
    rw [(fit_no hf).1, (fit_no hf).2] at G
    obtain ⟨e1, e2, e3⟩ := mk_far h0 hn hd hf
    rw [mkV_is e1 e2 e3]
    clear e1 e2 e3 hf
    go_enter Tryd.func37, Tryd.ntmps37
    go_wp2_with fail
    with_reducible refine (G _).mono ?_
    rintro e w1 ⟨rfl, b1⟩
    have R1 := (rbox_new w 0 0 _).next b1
    have B1 : Below w.heap.size w w1 := on (new_below w _) b1
    clear b1
    go_wp2_with fail
    with_reducible refine (of_ratio _ _).mono ?_
    rintro e w2 ⟨rfl, b2⟩
    have B2 : Below w.heap.size w w2 := on B1 b2
    obtain ⟨c0, c1, f0, f1, hz⟩ := R1.next b2
    clear b2 R1 B1
    go_wp2
    exact bodyPost_ret (v := .tuple #[.agg #[.int .i64 (wrap64 (n.tdiv d)), .int .i64 1], .bool true]) (by simp [results, Tryd.results37, go_sem, c0, c1]) rfl ⟨rfl, (B2.setCell (Nat.le_refl _) _).setCell (Nat.le_refl _) _⟩

theorem make_any (n d : Int) (hn : I64 n) (hd : I64 d) (w : World) :
    Calls Tryd.prog 11 #[.int .i64 n, .int .i64 d] w fun e w' => e = .returned (mkV n d) ∧ Below w.heap.size w w' := by
  by_cases h0 : d = 0
  · have e := mk_no (n := n) (d := d) (fun hh => hh.1 h0)
    rw [mkV_is e.1 e.2.1 e.2.2]
    have hne : (d == 0) = true := by simp [h0]
    clear e h0
    go_enter Tryd.func11, Tryd.ntmps11
    go_wp2
    exact bodyPost_ret (v := .tuple #[.agg #[.int .i64 0, .int .i64 0], .bool false]) (by simp [results, Tryd.results11, go_sem]) rfl ⟨rfl, new_below w _⟩
  · have hne : (d == 0) = false := by simp [h0]
    have L := lowest_any n d hn hd h0
    unfold mkV at L ⊢
    clear h0
    go_enter Tryd.func11, Tryd.ntmps11
    go_wp2_with fail
    with_reducible refine (L _).mono ?_
    rintro e w1 ⟨rfl, b1⟩
    obtain ⟨c0, c1, f0, f1, hz⟩ := (rbox_new w 0 0 _).next b1
    have B1 : Below w.heap.size w w1 := on (new_below w _) b1
    clear b1
    go_wp2
    exact bodyPost_ret (v := .tuple #[.agg #[.int .i64 (mkN n d), .int .i64 (mkD n d)], .bool (mkB n d)]) (by simp [results, Tryd.results11, go_sem, c0, c1]) rfl ⟨rfl, (B1.setCell (Nat.le_refl _) _).setCell (Nat.le_refl _) _⟩
end Go.Proofs.YtjaabjehegcnaaaDoor
