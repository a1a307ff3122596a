/-
  What each call of package ratio (layer 2) does, fourth part: opposite, Sub, Quo; the document's Sub, Quo.
-/
import Derived.Test.YtjaabjehegcnaaaDoorRatioWalks2
import Derived.Test.YtjaabjehegcnaaaDoorRatioWalks3
import Derived.Test.YtjaabjehegcnaaaDoorRefWalks2
import Derived.Test.YtjaabjehegcnaaaDoorRatioMath3
namespace Go.Proofs.YtjaabjehegcnaaaDoor
set_option maxRecDepth 100000
open Go.RowKit

theorem opp_yes (n d : Int) (hn : I64 n) (h : I64 (-n)) (w : World) :
    Calls Tryd.prog 58 #[.agg #[.int .i64 n, .int .i64 d]] w fun e w' => e = .returned (.tuple #[.agg #[.int .i64 (-n), .int .i64 d], .bool true]) ∧ Below w.heap.size w w' := by
  have N := neg_yes n hn h
  go_enter Tryd.func58, Tryd.ntmps58
  go_wp2_with fail
  with_reducible refine (N _).mono ?_
  rintro e w1 ⟨rfl, b1⟩
  have RA := ((rbox_new w n d 23).next (new_below _ (.cells #[.int .i64 0, .int .i64 0] 23))).next b1
  have RB := (rbox_new2 w (.cells #[.int .i64 n, .int .i64 d] 23) 0 0 23).next b1
  have B1 : Below w.heap.size w w1 := on (two_new w _ _) b1
  clear b1
  obtain ⟨c0, c1, f0, f1, hz⟩ := RA
  obtain ⟨d0, d1, g0, g1, hy⟩ := RB
  go_wp2
  exact bodyPost_ret (v := .tuple #[.agg #[.int .i64 (-n), .int .i64 d], .bool true]) (by simp [results, Tryd.results58, go_sem, d0, d1]) rfl ⟨rfl, (B1.setCell (by show w.heap.size ≤ w.heap.size + 1; omega) _).setCell (by show w.heap.size ≤ w.heap.size + 1; omega) _⟩
theorem opp_no (n d : Int) (hn : I64 n) (h : ¬ I64 (-n)) (w : World) :
    Calls Tryd.prog 58 #[.agg #[.int .i64 n, .int .i64 d]] w fun e w' => e = .returned (.tuple #[.agg #[.int .i64 0, .int .i64 0], .bool false]) ∧ Below w.heap.size w w' := by
  have N := neg_no n hn h
  go_enter Tryd.func58, Tryd.ntmps58
  go_wp2_with fail
  with_reducible refine (N _).mono ?_
  rintro e w1 ⟨rfl, b1⟩
  have RA := ((rbox_new w n d 23).next (new_below _ (.cells #[.int .i64 0, .int .i64 0] 23))).next b1
  have RB := (rbox_new2 w (.cells #[.int .i64 n, .int .i64 d] 23) 0 0 23).next b1
  have B1 : Below w.heap.size w w1 := on (two_new w _ _) b1
  clear b1
  obtain ⟨c0, c1, f0, f1, hz⟩ := RA
  obtain ⟨d0, d1, g0, g1, hy⟩ := RB
  go_wp2
  exact bodyPost_ret (v := .tuple #[.agg #[.int .i64 0, .int .i64 0], .bool false]) (by simp [results, Tryd.results58, go_sem, d0, d1]) rfl ⟨rfl, (B1.setCell (by show w.heap.size ≤ w.heap.size + 1; omega) _).setCell (by show w.heap.size ≤ w.heap.size + 1; omega) _⟩

set_option maxHeartbeats 1000000 in
theorem psub_any (a b c d : Int) (ha : I64 a) (hb : I64 b) (hc : I64 c) (hd : I64 d) (w : World) :
    Calls Tryd.prog 31 #[.agg #[.int .i64 a, .int .i64 b], .agg #[.int .i64 c, .int .i64 d]] w fun e w' => e = .returned (.tuple #[.agg #[.int .i64 (sbN a b c d), .int .i64 (sbD a b c d)], .bool (sbB a b c d)]) ∧ Below w.heap.size w w' := by
  by_cases h : I64 (-c)
  · obtain ⟨e1, e2, e3⟩ := sb_yes (a := a) (b := b) (d := d) (show sbOk c = true from fitB_iff.2 h)
    have O := opp_yes c d hc h
    have A := padd_any a b (-c) d ha hb h hd
    rw [e1, e2, e3]
    obtain ⟨x, hx⟩ : ∃ x, smN a b (-c) d = x := ⟨_, rfl⟩
    obtain ⟨y, hy⟩ : ∃ x, smD a b (-c) d = x := ⟨_, rfl⟩
    obtain ⟨z, hz⟩ : ∃ x, smB a b (-c) d = x := ⟨_, rfl⟩
    rw [hx, hy, hz] at A ⊢
    clear e1 e2 e3 hx hy hz h
    go_enter Tryd.func31, Tryd.ntmps31
    go_wp2_with fail
    with_reducible refine (O _).mono ?_
    rintro e w1 ⟨rfl, b1⟩
    have D1 := (duo_new w a b c d 23).next b1
    have B1 : Below w.heap.size w w1 := on (three_new w _ _ _) b1
    have H1 := Lib.hid (D1.next (new_below w1 (.cells #[.int .i64 (-c), .int .i64 d] 23)))
    have B2 := on B1 (new_below w1 (.cells #[.int .i64 (-c), .int .i64 d] 23))
    clear b1 B1
    obtain ⟨⟨a0, a1, a2, a3, a4⟩, ⟨c0, c1, c2, c3, c4⟩, ⟨r0, r1, r2, r3, r4⟩⟩ := D1
    go_wp2_with fail
    with_reducible refine (A _).mono ?_
    rintro e w2 ⟨rfl, b2⟩
    have B3 := on B2 b2
    have D2 := H1.out.next b2
    clear b2 H1 B2 a0 a1 a2 a3 a4 c0 c1 c2 c3 c4 r0 r1 r2 r3 r4
    obtain ⟨⟨a0, a1, a2, a3, a4⟩, ⟨c0, c1, c2, c3, c4⟩, ⟨r0, r1, r2, r3, r4⟩⟩ := D2
    go_wp2
    exact bodyPost_ret (v := .tuple #[.agg #[.int .i64 x, .int .i64 y], .bool z]) (by simp [results, Tryd.results31, go_sem, r0, r1]) rfl ⟨rfl, (B3.setCell (by show w.heap.size ≤ w.heap.size + 2; omega) _).setCell (by show w.heap.size ≤ w.heap.size + 2; omega) _⟩
  · obtain ⟨e1, e2, e3⟩ := sb_no (a := a) (b := b) (d := d) (show sbOk c = false from fitB_no.2 h)
    have O := opp_no c d hc h
    rw [e1, e2, e3]
    clear e1 e2 e3 h
    go_enter Tryd.func31, Tryd.ntmps31
    go_wp2_with fail
    with_reducible refine (O _).mono ?_
    rintro e w1 ⟨rfl, b1⟩
    have D1 := (duo_new w a b c d 23).next b1
    have B1 : Below w.heap.size w w1 := on (three_new w _ _ _) b1
    clear b1
    obtain ⟨⟨a0, a1, a2, a3, a4⟩, ⟨c0, c1, c2, c3, c4⟩, ⟨r0, r1, r2, r3, r4⟩⟩ := D1
    go_wp2
    exact bodyPost_ret (v := .tuple #[.agg #[.int .i64 0, .int .i64 0], .bool false]) (by simp [results, Tryd.results31, go_sem, r0, r1, r4]) rfl ⟨rfl, ((B1.setCell (by show w.heap.size ≤ w.heap.size + 2; omega) _).setCell (by show w.heap.size ≤ w.heap.size + 2; omega) _).alloc (by simp [World.setCell]; omega) _⟩

set_option maxHeartbeats 1000000 in
theorem pquo_any (a b c d : Int) (ha : I64 a) (hb : I64 b) (hc : I64 c) (hd : I64 d) (w : World) :
    Calls Tryd.prog 33 #[.agg #[.int .i64 a, .int .i64 b], .agg #[.int .i64 c, .int .i64 d]] w fun e w' => e = .returned (.tuple #[.agg #[.int .i64 (quN a b c d), .int .i64 (quD a b c d)], .bool (quB a b c d)]) ∧ Below w.heap.size w w' := by
  have G := good_any c d hc hd
  by_cases hg : goodB c d = true
  · rw [hg] at G
    have M := make_any d c hd hc
    obtain ⟨im, in_⟩ := mk_in d c
    have A := pmul_any a b (mkN d c) (mkD d c) ha hb im in_
    unfold mkV at M
    by_cases hm : mkB d c = true
    · rw [hm] at M
      obtain ⟨e1, e2, e3⟩ := qu_yes (a := a) (b := b) (show quOk c d = true by unfold quOk; rw [hg, hm]; rfl)
      rw [e1, e2, e3]
      obtain ⟨u, hu⟩ : ∃ x, mkN d c = x := ⟨_, rfl⟩
      obtain ⟨v, hv⟩ : ∃ x, mkD d c = x := ⟨_, rfl⟩
      rw [hu, hv] at M A ⊢
      obtain ⟨x, hx⟩ : ∃ x, pdN a b u v = x := ⟨_, rfl⟩
      obtain ⟨y, hy⟩ : ∃ x, pdD a b u v = x := ⟨_, rfl⟩
      obtain ⟨z, hz⟩ : ∃ x, pdOk a b u v = x := ⟨_, rfl⟩
      rw [hx, hy, hz] at A ⊢
      clear e1 e2 e3 hx hy hz hu hv hm hg im in_
      go_enter Tryd.func33, Tryd.ntmps33
      go_wp2_with fail
      with_reducible refine (G _).mono ?_
      rintro e w1 ⟨rfl, b1⟩
      have D1 := (duo_new w a b c d 23).next b1
      have B1 : Below w.heap.size w w1 := on (three_new w _ _ _) b1
      have H1 := Lib.hid D1
      clear b1
      obtain ⟨⟨a0, a1, a2, a3, a4⟩, ⟨c0, c1, c2, c3, c4⟩, ⟨r0, r1, r2, r3, r4⟩⟩ := D1
      go_wp2_with fail
      with_reducible refine (M _).mono ?_
      rintro e w2 ⟨rfl, b2⟩
      have D2 := H1.out.next b2
      have H2 := Lib.hid (D2.next (new_below w2 (.cells #[.int .i64 u, .int .i64 v] 23)))
      have B2 := on (on B1 b2) (new_below w2 (.cells #[.int .i64 u, .int .i64 v] 23))
      clear b2 B1 H1 a0 a1 a2 a3 a4 c0 c1 c2 c3 c4 r0 r1 r2 r3 r4
      obtain ⟨⟨a0, a1, a2, a3, a4⟩, ⟨c0, c1, c2, c3, c4⟩, ⟨r0, r1, r2, r3, r4⟩⟩ := D2
      go_wp2_with fail
      with_reducible refine (A _).mono ?_
      rintro e w3 ⟨rfl, b3⟩
      have B3 := on B2 b3
      have D3 := H2.out.next b3
      clear b3 H2 B2 a0 a1 a2 a3 a4 c0 c1 c2 c3 c4 r0 r1 r2 r3 r4
      obtain ⟨⟨a0, a1, a2, a3, a4⟩, ⟨c0, c1, c2, c3, c4⟩, ⟨r0, r1, r2, r3, r4⟩⟩ := D3
      go_wp2
      exact bodyPost_ret (v := .tuple #[.agg #[.int .i64 x, .int .i64 y], .bool z]) (by simp [results, Tryd.results33, go_sem, r0, r1]) rfl ⟨rfl, (B3.setCell (by show w.heap.size ≤ w.heap.size + 2; omega) _).setCell (by show w.heap.size ≤ w.heap.size + 2; omega) _⟩
    · have hm' : mkB d c = false := by simpa using hm
      rw [hm'] at M
      obtain ⟨e1, e2, e3⟩ := qu_no (a := a) (b := b) (show quOk c d = false by unfold quOk; rw [hm']; simp)
      rw [e1, e2, e3]
      obtain ⟨u, hu⟩ : ∃ x, mkN d c = x := ⟨_, rfl⟩
      obtain ⟨v, hv⟩ : ∃ x, mkD d c = x := ⟨_, rfl⟩
      rw [hu, hv] at M
      clear e1 e2 e3 hu hv hm hm' hg im in_ A
      go_enter Tryd.func33, Tryd.ntmps33
      go_wp2_with fail
      with_reducible refine (G _).mono ?_
      rintro e w1 ⟨rfl, b1⟩
      have D1 := (duo_new w a b c d 23).next b1
      have B1 : Below w.heap.size w w1 := on (three_new w _ _ _) b1
      have H1 := Lib.hid D1
      clear b1
      obtain ⟨⟨a0, a1, a2, a3, a4⟩, ⟨c0, c1, c2, c3, c4⟩, ⟨r0, r1, r2, r3, r4⟩⟩ := D1
      go_wp2_with fail
      with_reducible refine (M _).mono ?_
      rintro e w2 ⟨rfl, b2⟩
      have D2 := H1.out.next b2
      have B2 := on B1 b2
      clear b2 B1 H1 a0 a1 a2 a3 a4 c0 c1 c2 c3 c4 r0 r1 r2 r3 r4
      obtain ⟨⟨a0, a1, a2, a3, a4⟩, ⟨c0, c1, c2, c3, c4⟩, ⟨r0, r1, r2, r3, r4⟩⟩ := D2
      go_wp2
      exact bodyPost_ret (v := .tuple #[.agg #[.int .i64 0, .int .i64 0], .bool false]) (by simp [results, Tryd.results33, go_sem, r0, r1, r4]) rfl ⟨rfl, ((B2.setCell (by show w.heap.size ≤ w.heap.size + 2; omega) _).setCell (by show w.heap.size ≤ w.heap.size + 2; omega) _).alloc (by simp [World.setCell]; omega) _⟩
  · have hg' : goodB c d = false := by simpa using hg
    rw [hg'] at G
    obtain ⟨e1, e2, e3⟩ := qu_no (a := a) (b := b) (show quOk c d = false by unfold quOk; rw [hg']; simp)
    rw [e1, e2, e3]
    clear e1 e2 e3 hg hg'
    go_enter Tryd.func33, Tryd.ntmps33
    go_wp2_with fail
    with_reducible refine (G _).mono ?_
    rintro e w1 ⟨rfl, b1⟩
    have D1 := (duo_new w a b c d 23).next b1
    have B1 : Below w.heap.size w w1 := on (three_new w _ _ _) b1
    clear b1
    obtain ⟨⟨a0, a1, a2, a3, a4⟩, ⟨c0, c1, c2, c3, c4⟩, ⟨r0, r1, r2, r3, r4⟩⟩ := D1
    go_wp2
    exact bodyPost_ret (v := .tuple #[.agg #[.int .i64 0, .int .i64 0], .bool false]) (by simp [results, Tryd.results33, go_sem, r0, r1]) rfl ⟨rfl, (B1.setCell (by show w.heap.size ≤ w.heap.size + 2; omega) _).setCell (by show w.heap.size ≤ w.heap.size + 2; omega) _⟩

theorem rrsub_any (a b c d : Int) (ha : I64 a) (hb : I64 b) (hc : I64 c) (hd : I64 d) (w : World) :
    Calls Tryd.prog 32 #[.int .i64 a, .int .i64 b, .int .i64 c, .int .i64 d] w fun e w' => e = .returned (.tuple #[.int .i64 (sbN a b c d), .int .i64 (sbD a b c d), .bool (sbB a b c d)]) ∧ Below w.heap.size w w' := by
  have G := rgood_any c d hc hd
  by_cases hg : goodB c d = true
  · rw [hg] at G
    by_cases h : c = -9223372036854775808
    · have hx : (c == -9223372036854775808) = true := by simp [h]
      obtain ⟨e1, e2, e3⟩ := sb_no (a := a) (b := b) (d := d) (show sbOk c = false from fitB_no.2 (by rw [h]; unfold I64; omega))
      rw [e1, e2, e3]
      clear e1 e2 e3 hg h
      go_enter Tryd.func32, Tryd.ntmps32
      go_wp2_with fail
      with_reducible refine (G _).mono ?_
      rintro e w1 ⟨rfl, b1⟩
      go_wp2
      exact bodyPost_ret (v := .tuple #[.int .i64 0, .int .i64 0, .bool false]) (by simp [results, Tryd.results32, go_sem]) rfl ⟨rfl, b1⟩
    · have hx : (c == -9223372036854775808) = false := by simp [h]
      have hi : I64 (-c) := by obtain ⟨h0, h1⟩ := hc; unfold I64; omega
      obtain ⟨e1, e2, e3⟩ := sb_yes (a := a) (b := b) (d := d) (show sbOk c = true from fitB_iff.2 hi)
      have A := rradd_any a b (-c) d ha hb hi hd
      have W := wrap_in hi
      rw [e1, e2, e3]
      obtain ⟨x, hx1⟩ : ∃ x, smN a b (-c) d = x := ⟨_, rfl⟩
      obtain ⟨y, hy⟩ : ∃ x, smD a b (-c) d = x := ⟨_, rfl⟩
      obtain ⟨z, hz⟩ : ∃ x, smB a b (-c) d = x := ⟨_, rfl⟩
      rw [hx1, hy, hz] at A ⊢
      clear e1 e2 e3 hx1 hy hz hg h
      go_enter Tryd.func32, Tryd.ntmps32
      go_wp2_with fail
      with_reducible refine (G _).mono ?_
      rintro e w1 ⟨rfl, b1⟩
      go_wp2_with fail
      with_reducible refine (A _).mono ?_
      rintro e w2 ⟨rfl, b2⟩
      go_wp2
      exact bodyPost_ret (v := .tuple #[.int .i64 x, .int .i64 y, .bool z]) (by simp [results, Tryd.results32, go_sem]) rfl ⟨rfl, on b1 b2⟩
  · have hg' : goodB c d = false := by simpa using hg
    rw [hg'] at G
    obtain ⟨e1, e2, e3⟩ := sb_bad (a := a) (b := b) hg'
    rw [e1, e2, e3]
    clear e1 e2 e3 hg hg'
    go_enter Tryd.func32, Tryd.ntmps32
    go_wp2_with fail
    with_reducible refine (G _).mono ?_
    rintro e w1 ⟨rfl, b1⟩
    go_wp2
    exact bodyPost_ret (v := .tuple #[.int .i64 0, .int .i64 0, .bool false]) (by simp [results, Tryd.results32, go_sem]) rfl ⟨rfl, b1⟩

theorem rrquo_any (a b c d : Int) (ha : I64 a) (hb : I64 b) (hc : I64 c) (hd : I64 d) (w : World) :
    Calls Tryd.prog 34 #[.int .i64 a, .int .i64 b, .int .i64 c, .int .i64 d] w fun e w' => e = .returned (.tuple #[.int .i64 (quN a b c d), .int .i64 (quD a b c d), .bool (quB a b c d)]) ∧ Below w.heap.size w w' := by
  have G := rgood_any c d hc hd
  by_cases hg : goodB c d = true
  · rw [hg] at G
    have M := rmake_any d c hd hc
    obtain ⟨im, in_⟩ := mk_in d c
    have A := rrmul_any a b (mkN d c) (mkD d c) ha hb im in_
    unfold rmkV at M
    obtain ⟨u, hu⟩ : ∃ x, mkN d c = x := ⟨_, rfl⟩
    obtain ⟨v, hv⟩ : ∃ x, mkD d c = x := ⟨_, rfl⟩
    by_cases hm : mkB d c = true
    · rw [hm] at M
      obtain ⟨e1, e2, e3⟩ := qu_yes (a := a) (b := b) (show quOk c d = true by unfold quOk; rw [hg, hm]; rfl)
      rw [e1, e2, e3]
      rw [hu, hv] at M A ⊢
      obtain ⟨x, hx⟩ : ∃ x, pdN a b u v = x := ⟨_, rfl⟩
      obtain ⟨y, hy⟩ : ∃ x, pdD a b u v = x := ⟨_, rfl⟩
      obtain ⟨z, hz⟩ : ∃ x, pdOk a b u v = x := ⟨_, rfl⟩
      rw [hx, hy, hz] at A ⊢
      clear e1 e2 e3 hx hy hz hu hv hm hg im in_
      go_enter Tryd.func34, Tryd.ntmps34
      go_wp2_with fail
      with_reducible refine (G _).mono ?_
      rintro e w1 ⟨rfl, b1⟩
      go_wp2_with fail
      with_reducible refine (M _).mono ?_
      rintro e w2 ⟨rfl, b2⟩
      go_wp2_with fail
      with_reducible refine (A _).mono ?_
      rintro e w3 ⟨rfl, b3⟩
      go_wp2
      exact bodyPost_ret (v := .tuple #[.int .i64 x, .int .i64 y, .bool z]) (by simp [results, Tryd.results34, go_sem]) rfl ⟨rfl, on (on b1 b2) b3⟩
    · have hm' : mkB d c = false := by simpa using hm
      rw [hm'] at M
      obtain ⟨e1, e2, e3⟩ := qu_no (a := a) (b := b) (show quOk c d = false by unfold quOk; rw [hm']; simp)
      rw [e1, e2, e3]
      rw [hu, hv] at M
      clear e1 e2 e3 hu hv hm hm' hg im in_ A
      go_enter Tryd.func34, Tryd.ntmps34
      go_wp2_with fail
      with_reducible refine (G _).mono ?_
      rintro e w1 ⟨rfl, b1⟩
      go_wp2_with fail
      with_reducible refine (M _).mono ?_
      rintro e w2 ⟨rfl, b2⟩
      go_wp2
      exact bodyPost_ret (v := .tuple #[.int .i64 0, .int .i64 0, .bool false]) (by simp [results, Tryd.results34, go_sem]) rfl ⟨rfl, on b1 b2⟩
  · have hg' : goodB c d = false := by simpa using hg
    rw [hg'] at G
    obtain ⟨e1, e2, e3⟩ := qu_no (a := a) (b := b) (show quOk c d = false by unfold quOk; rw [hg']; simp)
    rw [e1, e2, e3]
    clear e1 e2 e3 hg hg'
    go_enter Tryd.func34, Tryd.ntmps34
    go_wp2_with fail
    with_reducible refine (G _).mono ?_
    rintro e w1 ⟨rfl, b1⟩
    go_wp2
    exact bodyPost_ret (v := .tuple #[.int .i64 0, .int .i64 0, .bool false]) (by simp [results, Tryd.results34, go_sem]) rfl ⟨rfl, b1⟩
end Go.Proofs.YtjaabjehegcnaaaDoor
