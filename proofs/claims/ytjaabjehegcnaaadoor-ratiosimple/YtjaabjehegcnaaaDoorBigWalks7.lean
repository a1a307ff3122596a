/-
  What each call of the document's own numbers (package secateurref01) does, seventh part: Short.
-/
import Derived.Test.YtjaabjehegcnaaaDoorBigWalks6
namespace Go.Proofs.YtjaabjehegcnaaaDoor
set_option maxRecDepth 100000
open Go.RowKit

theorem one_below (w : World) (o : Obj) : Below w.heap.size w (w.alloc o) := (Below.refl _ _).alloc (Nat.le_refl _) _

/-- The least and the greatest number of 64 bits. -/
def loC : Int := -9223372036854775808
def hiC : Int := 9223372036854775807
theorem of_lo (w : World) : Calls Tryd.prog 39 #[.int .i64 (-9223372036854775808)] w fun e w' => (∃ v, e = .returned v ∧ Rep w' v loC) ∧ Below w.heap.size w w' :=
  of_any (-9223372036854775808) (by unfold I64; omega) w
theorem of_hi (w : World) : Calls Tryd.prog 39 #[.int .i64 9223372036854775807] w fun e w' => (∃ v, e = .returned v ∧ Rep w' v hiC) ∧ Below w.heap.size w w' :=
  of_any 9223372036854775807 (by unfold I64; omega) w

set_option maxHeartbeats 4000000 in
theorem short_out (z : Int) (p : Bool) (l : Nat) (x : Option Addr) (cap : Nat) (w : World) (hp : decide (z < 0) = p) (hl : (dig z.natAbs).length = l) (h : Digs w x cap (dig z.natAbs)) (hz : ¬ I64 z) :
    Calls Tryd.prog 41 #[.agg #[.bool p, .slice x l cap]] w fun e w' => e = .returned (.tuple #[.int .i64 0, .bool false]) ∧ Below w.heap.size w w' := by
  have C1 := Lib.hid (fun X Y K W hx hy => cmp_any z loC X Y cap K W hx hy)
  have C2 := Lib.hid (fun X Y K W hx hy => cmp_any z hiC X Y cap K W hx hy)
  rw [hp, hl] at C1 C2
  have H : Hid (∀ W, Below w.heap.size w W → Digs W x cap (dig z.natAbs)) := fun W hW => h.below hW
  by_cases h1 : cmp3 z loC < 0
  · obtain ⟨cx, hcx⟩ : ∃ c, cmp3 z loC = c := ⟨_, rfl⟩
    obtain ⟨cy, hcy⟩ : ∃ c, cmp3 z hiC = c := ⟨_, rfl⟩
    rw [hcx] at C1 h1
    rw [hcy] at C2
    clear hcx hcy hp hl h hz
    go_enter Tryd.func41, Tryd.ntmps41
    go_wp2_with fail
    with_reducible refine (of_lo _).mono ?_
    rintro e w1 ⟨⟨v1, rfl, R1⟩, b1⟩
    have B1 : Below w.heap.size w w1 := on (one_below w _) b1
    have s1 := b1.size
    simp only [World.size_alloc] at s1
    have c0 : w1.cell? ⟨w.heap.size, 0, none⟩ = some (.bool p) := by rw [b1.cell (by simp)]; simp [go_sem]
    have c1 : w1.cell? ⟨w.heap.size, 1, none⟩ = some (.slice x l cap) := by rw [b1.cell (by simp)]; simp [go_sem]
    obtain ⟨x1, k1, rfl, D1⟩ := R1
    go_wp2_with fail
    with_reducible refine (of_hi _).mono ?_
    rintro e w2 ⟨⟨v2, rfl, R2⟩, b2⟩
    have s2 := b2.size
    simp only [World.size_alloc] at s2
    have B2 : Below w.heap.size w w2 := on (B1.alloc B1.size _) b2
    have c0 : w2.cell? ⟨w.heap.size, 0, none⟩ = some (.bool p) := by rw [b2.cell (by simp; omega), (one_below w1 _).cell (by show w.heap.size < _; omega)]; exact c0
    have c1 : w2.cell? ⟨w.heap.size, 1, none⟩ = some (.slice x l cap) := by rw [b2.cell (by simp; omega), (one_below w1 _).cell (by show w.heap.size < _; omega)]; exact c1
    have d0 : w2.cell? ⟨w1.heap.size, 0, none⟩ = some (.bool (decide (loC < 0))) := by rw [b2.cell (by simp)]; simp [go_sem]
    have d1 : w2.cell? ⟨w1.heap.size, 1, none⟩ = some (.slice x1 (dig loC.natAbs).length k1) := by rw [b2.cell (by simp)]; simp [go_sem]
    have D1 := (D1.below (one_below w1 _)).below b2
    obtain ⟨x2, k2, rfl, D2⟩ := R2
    have z1 : w.heap.size < w2.heap.size := by omega
    have z2 : w1.heap.size < w2.heap.size := by omega
    have hZ2 := H.out w2 B2
    clear b1 b2 B1 s1
    go_wp2_with fail
    with_reducible refine (C1.out _ _ _ _ (hZ2.below (one_below w2 _)) (D1.below (one_below w2 _))).mono ?_
    rintro e w3 ⟨rfl, b3⟩
    have s3 := b3.size
    simp only [World.size_alloc] at s3
    have c0 : w3.cell? ⟨w.heap.size, 0, none⟩ = some (.bool p) := by rw [b3.cell (by simp; omega), (one_below w2 _).cell (by show w.heap.size < _; omega)]; exact c0
    have c1 : w3.cell? ⟨w.heap.size, 1, none⟩ = some (.slice x l cap) := by rw [b3.cell (by simp; omega), (one_below w2 _).cell (by show w.heap.size < _; omega)]; exact c1
    have d0 : w3.cell? ⟨w2.heap.size, 0, none⟩ = some (.bool (decide (hiC < 0))) := by rw [b3.cell (by simp)]; simp [go_sem]
    have d1 : w3.cell? ⟨w2.heap.size, 1, none⟩ = some (.slice x2 (dig hiC.natAbs).length k2) := by rw [b3.cell (by simp)]; simp [go_sem]
    have D2 := (D2.below (one_below w2 _)).below b3
    have B3 : Below w.heap.size w w3 := on (B2.alloc B2.size _) b3
    have hZ3 := H.out w3 B3
    clear b3 hZ2 D1
    go_wp2_with fail
    with_reducible refine (C2.out _ _ _ _ hZ3 D2).mono ?_
    rintro e w4 ⟨rfl, b4⟩
    have s4 := b4.size
    have c0 : w4.cell? ⟨w.heap.size, 0, none⟩ = some (.bool p) := by rw [b4.cell (by show w.heap.size < _; omega)]; exact c0
    have c1 : w4.cell? ⟨w.heap.size, 1, none⟩ = some (.slice x l cap) := by rw [b4.cell (by show w.heap.size < _; omega)]; exact c1
    have B4 : Below w.heap.size w w4 := on B3 b4
    clear b4 d0 d1 D2 hZ3 B3 C1 C2
    go_wp2
    go_ret2
    exact ⟨rfl, B4⟩
  · have h2 : 0 < cmp3 z hiC := by
      unfold I64 at hz
      unfold cmp3 loC at h1
      unfold cmp3 hiC
      (repeat' split at h1) <;> (repeat' split) <;> omega
    obtain ⟨cx, hcx⟩ : ∃ c, cmp3 z loC = c := ⟨_, rfl⟩
    obtain ⟨cy, hcy⟩ : ∃ c, cmp3 z hiC = c := ⟨_, rfl⟩
    rw [hcx] at C1 h1
    rw [hcy] at C2 h2
    clear hcx hcy hp hl h hz
    go_enter Tryd.func41, Tryd.ntmps41
    go_wp2_with fail
    with_reducible refine (of_lo _).mono ?_
    rintro e w1 ⟨⟨v1, rfl, R1⟩, b1⟩
    have B1 : Below w.heap.size w w1 := on (one_below w _) b1
    have s1 := b1.size
    simp only [World.size_alloc] at s1
    have c0 : w1.cell? ⟨w.heap.size, 0, none⟩ = some (.bool p) := by rw [b1.cell (by simp)]; simp [go_sem]
    have c1 : w1.cell? ⟨w.heap.size, 1, none⟩ = some (.slice x l cap) := by rw [b1.cell (by simp)]; simp [go_sem]
    obtain ⟨x1, k1, rfl, D1⟩ := R1
    go_wp2_with fail
    with_reducible refine (of_hi _).mono ?_
    rintro e w2 ⟨⟨v2, rfl, R2⟩, b2⟩
    have s2 := b2.size
    simp only [World.size_alloc] at s2
    have B2 : Below w.heap.size w w2 := on (B1.alloc B1.size _) b2
    have c0 : w2.cell? ⟨w.heap.size, 0, none⟩ = some (.bool p) := by rw [b2.cell (by simp; omega), (one_below w1 _).cell (by show w.heap.size < _; omega)]; exact c0
    have c1 : w2.cell? ⟨w.heap.size, 1, none⟩ = some (.slice x l cap) := by rw [b2.cell (by simp; omega), (one_below w1 _).cell (by show w.heap.size < _; omega)]; exact c1
    have d0 : w2.cell? ⟨w1.heap.size, 0, none⟩ = some (.bool (decide (loC < 0))) := by rw [b2.cell (by simp)]; simp [go_sem]
    have d1 : w2.cell? ⟨w1.heap.size, 1, none⟩ = some (.slice x1 (dig loC.natAbs).length k1) := by rw [b2.cell (by simp)]; simp [go_sem]
    have D1 := (D1.below (one_below w1 _)).below b2
    obtain ⟨x2, k2, rfl, D2⟩ := R2
    have z1 : w.heap.size < w2.heap.size := by omega
    have z2 : w1.heap.size < w2.heap.size := by omega
    have hZ2 := H.out w2 B2
    clear b1 b2 B1 s1
    go_wp2_with fail
    with_reducible refine (C1.out _ _ _ _ (hZ2.below (one_below w2 _)) (D1.below (one_below w2 _))).mono ?_
    rintro e w3 ⟨rfl, b3⟩
    have s3 := b3.size
    simp only [World.size_alloc] at s3
    have c0 : w3.cell? ⟨w.heap.size, 0, none⟩ = some (.bool p) := by rw [b3.cell (by simp; omega), (one_below w2 _).cell (by show w.heap.size < _; omega)]; exact c0
    have c1 : w3.cell? ⟨w.heap.size, 1, none⟩ = some (.slice x l cap) := by rw [b3.cell (by simp; omega), (one_below w2 _).cell (by show w.heap.size < _; omega)]; exact c1
    have d0 : w3.cell? ⟨w2.heap.size, 0, none⟩ = some (.bool (decide (hiC < 0))) := by rw [b3.cell (by simp)]; simp [go_sem]
    have d1 : w3.cell? ⟨w2.heap.size, 1, none⟩ = some (.slice x2 (dig hiC.natAbs).length k2) := by rw [b3.cell (by simp)]; simp [go_sem]
    have D2 := (D2.below (one_below w2 _)).below b3
    have B3 : Below w.heap.size w w3 := on (B2.alloc B2.size _) b3
    have hZ3 := H.out w3 B3
    clear b3 hZ2 D1
    go_wp2_with fail
    with_reducible refine (C2.out _ _ _ _ hZ3 D2).mono ?_
    rintro e w4 ⟨rfl, b4⟩
    have s4 := b4.size
    have c0 : w4.cell? ⟨w.heap.size, 0, none⟩ = some (.bool p) := by rw [b4.cell (by show w.heap.size < _; omega)]; exact c0
    have c1 : w4.cell? ⟨w.heap.size, 1, none⟩ = some (.slice x l cap) := by rw [b4.cell (by show w.heap.size < _; omega)]; exact c1
    have B4 : Below w.heap.size w w4 := on B3 b4
    clear b4 d0 d1 D2 hZ3 B3 C1 C2
    go_wp2
    go_ret2
    exact ⟨rfl, B4⟩

theorem ret_pair' {k : IntKind} {a b : Int} {c : Bool} (h : a = b) : Ending.returned (.tuple #[.int k a, .bool c]) = .returned (.tuple #[.int k b, .bool c]) := by rw [h]

set_option maxHeartbeats 4000000 in
theorem short_neg (z : Int) (m l : Nat) (x : Option Addr) (cap : Nat) (w : World) (hm : z.natAbs = m) (hl : (dig m).length = l) (h : Digs w x cap (dig m)) (hz : I64 z) (hs : z < 0) :
    Calls Tryd.prog 41 #[.agg #[.bool true, .slice x l cap]] w fun e w' => e = .returned (.tuple #[.int .i64 z, .bool true]) ∧ Below w.heap.size w w' := by
  have hp : decide (z < 0) = true := by simpa using hs
  have C1 := Lib.hid (fun X Y K W hx hy => cmp_any z loC X Y cap K W hx hy)
  have C2 := Lib.hid (fun X Y K W hx hy => cmp_any z hiC X Y cap K W hx hy)
  rw [hm, hp, hl] at C1 C2
  have H : Hid (∀ W, Below w.heap.size w W → Digs W x cap (dig m)) := fun W hW => h.below hW
  have h1 : ¬ cmp3 z loC < 0 := by
    obtain ⟨a, b⟩ := hz; unfold cmp3 loC; (repeat' split) <;> omega
  have h2 : ¬ 0 < cmp3 z hiC := by
    obtain ⟨a, b⟩ := hz; unfold cmp3 hiC; (repeat' split) <;> omega
  obtain ⟨cx, hcx⟩ : ∃ c, cmp3 z loC = c := ⟨_, rfl⟩
  obtain ⟨cy, hcy⟩ : ∃ c, cmp3 z hiC = c := ⟨_, rfl⟩
  rw [hcx] at C1 h1
  rw [hcy] at C2 h2
  have g1 : decide (cx < 0) = false := by simpa using h1
  have g2 : decide (0 < cy) = false := by simpa using h2
  have hmb : m ≤ 9223372036854775808 := by obtain ⟨a, b⟩ := hz; omega
  have hzm : z = -(m : Int) := by omega
  obtain ⟨kc1, kc2⟩ := h.cap_ok
  unfold maxLen at kc2
  have hl2 : l ≤ cap := by rw [← hl]; exact kc1
  have HZ := Lib.hid hzm
  have LL := Lib.hid hl
  clear hcx hcy hp hl h hz h1 h2 hm hs hzm kc1
  go_enter Tryd.func41, Tryd.ntmps41
  go_wp2_with fail
  with_reducible refine (of_lo _).mono ?_
  rintro e w1 ⟨⟨v1, rfl, R1⟩, b1⟩
  have B1 : Below w.heap.size w w1 := on (one_below w _) b1
  have s1 := b1.size
  simp only [World.size_alloc] at s1
  have c0 : w1.cell? ⟨w.heap.size, 0, none⟩ = some (.bool true) := by rw [b1.cell (by simp)]; simp [go_sem]
  have c1 : w1.cell? ⟨w.heap.size, 1, none⟩ = some (.slice x l cap) := by rw [b1.cell (by simp)]; simp [go_sem]
  obtain ⟨x1, k1, rfl, D1⟩ := R1
  go_wp2_with fail
  with_reducible refine (of_hi _).mono ?_
  rintro e w2 ⟨⟨v2, rfl, R2⟩, b2⟩
  have s2 := b2.size
  simp only [World.size_alloc] at s2
  have B2 : Below w.heap.size w w2 := on (B1.alloc B1.size _) b2
  have c0 : w2.cell? ⟨w.heap.size, 0, none⟩ = some (.bool true) := by rw [b2.cell (by simp; omega), (one_below w1 _).cell (by show w.heap.size < _; omega)]; exact c0
  have c1 : w2.cell? ⟨w.heap.size, 1, none⟩ = some (.slice x l cap) := by rw [b2.cell (by simp; omega), (one_below w1 _).cell (by show w.heap.size < _; omega)]; exact c1
  have d0 : w2.cell? ⟨w1.heap.size, 0, none⟩ = some (.bool (decide (loC < 0))) := by rw [b2.cell (by simp)]; simp [go_sem]
  have d1 : w2.cell? ⟨w1.heap.size, 1, none⟩ = some (.slice x1 (dig loC.natAbs).length k1) := by rw [b2.cell (by simp)]; simp [go_sem]
  have D1 := (D1.below (one_below w1 _)).below b2
  obtain ⟨x2, k2, rfl, D2⟩ := R2
  have z1 : w.heap.size < w2.heap.size := by omega
  have z2 : w1.heap.size < w2.heap.size := by omega
  have hZ2 := H.out w2 B2
  clear b1 b2 B1 s1
  go_wp2_with fail
  with_reducible refine (C1.out _ _ _ _ (hZ2.below (one_below w2 _)) (D1.below (one_below w2 _))).mono ?_
  rintro e w3 ⟨rfl, b3⟩
  have s3 := b3.size
  simp only [World.size_alloc] at s3
  have c0 : w3.cell? ⟨w.heap.size, 0, none⟩ = some (.bool true) := by rw [b3.cell (by simp; omega), (one_below w2 _).cell (by show w.heap.size < _; omega)]; exact c0
  have c1 : w3.cell? ⟨w.heap.size, 1, none⟩ = some (.slice x l cap) := by rw [b3.cell (by simp; omega), (one_below w2 _).cell (by show w.heap.size < _; omega)]; exact c1
  have d0 : w3.cell? ⟨w2.heap.size, 0, none⟩ = some (.bool (decide (hiC < 0))) := by rw [b3.cell (by simp)]; simp [go_sem]
  have d1 : w3.cell? ⟨w2.heap.size, 1, none⟩ = some (.slice x2 (dig hiC.natAbs).length k2) := by rw [b3.cell (by simp)]; simp [go_sem]
  have D2 := (D2.below (one_below w2 _)).below b3
  have B3 : Below w.heap.size w w3 := on (B2.alloc B2.size _) b3
  have hZ3 := H.out w3 B3
  clear b3 hZ2 D1
  go_wp2_with fail
  with_reducible refine (C2.out _ _ _ _ hZ3 D2).mono ?_
  rintro e w4 ⟨rfl, b4⟩
  have s4 := b4.size
  have c0 : w4.cell? ⟨w.heap.size, 0, none⟩ = some (.bool true) := by rw [b4.cell (by show w.heap.size < _; omega)]; exact c0
  have c1 : w4.cell? ⟨w.heap.size, 1, none⟩ = some (.slice x l cap) := by rw [b4.cell (by show w.heap.size < _; omega)]; exact c1
  have B4 : Below w.heap.size w w4 := on B3 b4
  clear b4 d0 d1 D2 hZ3 B3 C1 C2
  have hD := H.out w4 B4
  clear H
  by_cases hl0 : l = 0
  · subst hl0
    have hm0 : m = 0 := by
      have := dig_len_pos (n := m); rw [LL.out] at this
      by_cases h0 : m = 0
      · exact h0
      · exact absurd (this.2 h0) (by omega)
    have hz0 : z = 0 := by rw [HZ.out, hm0]; rfl
    have HZ0 := Lib.hid hz0
    clear hz0 hm0
    go_wp2
    go_loop [8, 9] (fun n i => n = .int .i64 0 ∧ i = .int .i64 (-1)) (fun _ _ => 0)
    case atStart => exact ⟨rfl, by go_num⟩
    case round =>
      obtain ⟨rfl, rfl⟩ := hrel
      go_wp2
      go_ret2
      exact ⟨ret_pair' HZ0.out.symm, B4⟩
  · go_wp2
    go_loop [8, 9] (fun n i => (i = .int .i64 (-1) ∧ n = .int .i64 z) ∨ ∃ j : Nat, j < l ∧ i = .int .i64 j ∧ n = .int .i64 (-((m / 65536 ^ (j + 1) : Nat) : Int))) (fun _ i => (intOf i + 1).toNat)
    case atStart => exact Or.inr ⟨l - 1, by omega, by go_num, congrArg (Value.int .i64) (by rw [show l - 1 + 1 = l by omega, dig_out (by rw [LL.out]; exact Nat.le_refl _)]; rfl)⟩
    case round =>
      rcases hrel with ⟨rfl, rfl⟩ | ⟨j, hj, rfl, rfl⟩
      · go_wp2
        go_ret2
        exact ⟨rfl, B4⟩
      · obtain ⟨b, hxb, hb, _, _, hc⟩ := Digs.at hD (k := j) (by rw [LL.out]; exact hj)
        subst hxb
        obtain ⟨M, hM⟩ : ∃ M, m / 65536 ^ (j + 1) = M := ⟨_, rfl⟩
        obtain ⟨d, hd⟩ : ∃ d, m / 65536 ^ j % 65536 = d := ⟨_, rfl⟩
        have hq : m / 65536 ^ j = M * 65536 + d := by rw [← hM, ← hd, pow_step]; omega
        have hle : m / 65536 ^ j ≤ m := Nat.div_le_self _ _
        have hb1 : M * 65536 + d ≤ 9223372036854775808 := by omega
        have wd : d < 65536 := by omega
        rw [dig_get, hd] at hc
        rw [hM]
        have HQ := Lib.hid hq
        clear hM hd hq hle
        rcases j with _ | j
        · have hfin : -((M * 65536 + d : Nat) : Int) = z := by rw [HZ.out, ← HQ.out]; simp
          have HF := Lib.hid hfin
          clear hfin
          go_wp2
          go_round
          case rel => exact Or.inl ⟨by go_num, congrArg (Value.int .i64) (by have := HF.out; omega)⟩
          case measure => simp [intOf]
        · go_wp2
          go_round
          case rel => exact Or.inr ⟨j, by omega, by go_num, congrArg (Value.int .i64) (by rw [HQ.out]; omega)⟩
          case measure => simp [intOf]; omega

set_option maxHeartbeats 4000000 in
theorem short_pos (z : Int) (m l : Nat) (x : Option Addr) (cap : Nat) (w : World) (hm : z.natAbs = m) (hl : (dig m).length = l) (h : Digs w x cap (dig m)) (hz : I64 z) (hs : ¬ z < 0) :
    Calls Tryd.prog 41 #[.agg #[.bool false, .slice x l cap]] w fun e w' => e = .returned (.tuple #[.int .i64 z, .bool true]) ∧ Below w.heap.size w w' := by
  have hp : decide (z < 0) = false := by simpa using hs
  have C1 := Lib.hid (fun X Y K W hx hy => cmp_any z loC X Y cap K W hx hy)
  have C2 := Lib.hid (fun X Y K W hx hy => cmp_any z hiC X Y cap K W hx hy)
  rw [hm, hp, hl] at C1 C2
  have H : Hid (∀ W, Below w.heap.size w W → Digs W x cap (dig m)) := fun W hW => h.below hW
  have h1 : ¬ cmp3 z loC < 0 := by
    obtain ⟨a, b⟩ := hz; unfold cmp3 loC; (repeat' split) <;> omega
  have h2 : ¬ 0 < cmp3 z hiC := by
    obtain ⟨a, b⟩ := hz; unfold cmp3 hiC; (repeat' split) <;> omega
  obtain ⟨cx, hcx⟩ : ∃ c, cmp3 z loC = c := ⟨_, rfl⟩
  obtain ⟨cy, hcy⟩ : ∃ c, cmp3 z hiC = c := ⟨_, rfl⟩
  rw [hcx] at C1 h1
  rw [hcy] at C2 h2
  have g1 : decide (cx < 0) = false := by simpa using h1
  have g2 : decide (0 < cy) = false := by simpa using h2
  have hmb : m ≤ 9223372036854775807 := by obtain ⟨a, b⟩ := hz; omega
  have hzm : z = (m : Int) := by omega
  obtain ⟨kc1, kc2⟩ := h.cap_ok
  unfold maxLen at kc2
  have hl2 : l ≤ cap := by rw [← hl]; exact kc1
  have HZ := Lib.hid hzm
  have LL := Lib.hid hl
  clear hcx hcy hp hl h hz h1 h2 hm hs hzm kc1
  go_enter Tryd.func41, Tryd.ntmps41
  go_wp2_with fail
  with_reducible refine (of_lo _).mono ?_
  rintro e w1 ⟨⟨v1, rfl, R1⟩, b1⟩
  have B1 : Below w.heap.size w w1 := on (one_below w _) b1
  have s1 := b1.size
  simp only [World.size_alloc] at s1
  have c0 : w1.cell? ⟨w.heap.size, 0, none⟩ = some (.bool false) := by rw [b1.cell (by simp)]; simp [go_sem]
  have c1 : w1.cell? ⟨w.heap.size, 1, none⟩ = some (.slice x l cap) := by rw [b1.cell (by simp)]; simp [go_sem]
  obtain ⟨x1, k1, rfl, D1⟩ := R1
  go_wp2_with fail
  with_reducible refine (of_hi _).mono ?_
  rintro e w2 ⟨⟨v2, rfl, R2⟩, b2⟩
  have s2 := b2.size
  simp only [World.size_alloc] at s2
  have B2 : Below w.heap.size w w2 := on (B1.alloc B1.size _) b2
  have c0 : w2.cell? ⟨w.heap.size, 0, none⟩ = some (.bool false) := by rw [b2.cell (by simp; omega), (one_below w1 _).cell (by show w.heap.size < _; omega)]; exact c0
  have c1 : w2.cell? ⟨w.heap.size, 1, none⟩ = some (.slice x l cap) := by rw [b2.cell (by simp; omega), (one_below w1 _).cell (by show w.heap.size < _; omega)]; exact c1
  have d0 : w2.cell? ⟨w1.heap.size, 0, none⟩ = some (.bool (decide (loC < 0))) := by rw [b2.cell (by simp)]; simp [go_sem]
  have d1 : w2.cell? ⟨w1.heap.size, 1, none⟩ = some (.slice x1 (dig loC.natAbs).length k1) := by rw [b2.cell (by simp)]; simp [go_sem]
  have D1 := (D1.below (one_below w1 _)).below b2
  obtain ⟨x2, k2, rfl, D2⟩ := R2
  have z1 : w.heap.size < w2.heap.size := by omega
  have z2 : w1.heap.size < w2.heap.size := by omega
  have hZ2 := H.out w2 B2
  clear b1 b2 B1 s1
  go_wp2_with fail
  with_reducible refine (C1.out _ _ _ _ (hZ2.below (one_below w2 _)) (D1.below (one_below w2 _))).mono ?_
  rintro e w3 ⟨rfl, b3⟩
  have s3 := b3.size
  simp only [World.size_alloc] at s3
  have c0 : w3.cell? ⟨w.heap.size, 0, none⟩ = some (.bool false) := by rw [b3.cell (by simp; omega), (one_below w2 _).cell (by show w.heap.size < _; omega)]; exact c0
  have c1 : w3.cell? ⟨w.heap.size, 1, none⟩ = some (.slice x l cap) := by rw [b3.cell (by simp; omega), (one_below w2 _).cell (by show w.heap.size < _; omega)]; exact c1
  have d0 : w3.cell? ⟨w2.heap.size, 0, none⟩ = some (.bool (decide (hiC < 0))) := by rw [b3.cell (by simp)]; simp [go_sem]
  have d1 : w3.cell? ⟨w2.heap.size, 1, none⟩ = some (.slice x2 (dig hiC.natAbs).length k2) := by rw [b3.cell (by simp)]; simp [go_sem]
  have D2 := (D2.below (one_below w2 _)).below b3
  have B3 : Below w.heap.size w w3 := on (B2.alloc B2.size _) b3
  have hZ3 := H.out w3 B3
  clear b3 hZ2 D1
  go_wp2_with fail
  with_reducible refine (C2.out _ _ _ _ hZ3 D2).mono ?_
  rintro e w4 ⟨rfl, b4⟩
  have s4 := b4.size
  have c0 : w4.cell? ⟨w.heap.size, 0, none⟩ = some (.bool false) := by rw [b4.cell (by show w.heap.size < _; omega)]; exact c0
  have c1 : w4.cell? ⟨w.heap.size, 1, none⟩ = some (.slice x l cap) := by rw [b4.cell (by show w.heap.size < _; omega)]; exact c1
  have B4 : Below w.heap.size w w4 := on B3 b4
  clear b4 d0 d1 D2 hZ3 B3 C1 C2
  have hD := H.out w4 B4
  clear H
  by_cases hl0 : l = 0
  · subst hl0
    have hm0 : m = 0 := by
      have := dig_len_pos (n := m); rw [LL.out] at this
      by_cases h0 : m = 0
      · exact h0
      · exact absurd (this.2 h0) (by omega)
    have hz0 : z = 0 := by rw [HZ.out, hm0]; rfl
    have HZ0 := Lib.hid hz0
    clear hz0 hm0
    go_wp2
    go_loop [8, 9] (fun n i => n = .int .i64 0 ∧ i = .int .i64 (-1)) (fun _ _ => 0)
    case atStart => exact ⟨rfl, by go_num⟩
    case round =>
      obtain ⟨rfl, rfl⟩ := hrel
      go_wp2
      go_ret2
      exact ⟨ret_pair' HZ0.out.symm, B4⟩
  · go_wp2
    go_loop [8, 9] (fun n i => (i = .int .i64 (-1) ∧ n = .int .i64 z) ∨ ∃ j : Nat, j < l ∧ i = .int .i64 j ∧ n = .int .i64 (((m / 65536 ^ (j + 1) : Nat) : Int))) (fun _ i => (intOf i + 1).toNat)
    case atStart => exact Or.inr ⟨l - 1, by omega, by go_num, congrArg (Value.int .i64) (by rw [show l - 1 + 1 = l by omega, dig_out (by rw [LL.out]; exact Nat.le_refl _)]; rfl)⟩
    case round =>
      rcases hrel with ⟨rfl, rfl⟩ | ⟨j, hj, rfl, rfl⟩
      · go_wp2
        go_ret2
        exact ⟨rfl, B4⟩
      · obtain ⟨b, hxb, hb, _, _, hc⟩ := Digs.at hD (k := j) (by rw [LL.out]; exact hj)
        subst hxb
        obtain ⟨M, hM⟩ : ∃ M, m / 65536 ^ (j + 1) = M := ⟨_, rfl⟩
        obtain ⟨d, hd⟩ : ∃ d, m / 65536 ^ j % 65536 = d := ⟨_, rfl⟩
        have hq : m / 65536 ^ j = M * 65536 + d := by rw [← hM, ← hd, pow_step]; omega
        have hle : m / 65536 ^ j ≤ m := Nat.div_le_self _ _
        have hb1 : M * 65536 + d ≤ 9223372036854775807 := by omega
        have wd : d < 65536 := by omega
        rw [dig_get, hd] at hc
        rw [hM]
        have HQ := Lib.hid hq
        clear hM hd hq hle
        rcases j with _ | j
        · have hfin : ((M * 65536 + d : Nat) : Int) = z := by rw [HZ.out, ← HQ.out]; simp
          have HF := Lib.hid hfin
          clear hfin
          go_wp2
          go_round
          case rel => exact Or.inl ⟨by go_num, congrArg (Value.int .i64) (by have := HF.out; omega)⟩
          case measure => simp [intOf]
        · go_wp2
          go_round
          case rel => exact Or.inr ⟨j, by omega, by go_num, congrArg (Value.int .i64) (by rw [HQ.out]; omega)⟩
          case measure => simp [intOf]; omega

/-- Short: a number of 64 bits; is it one? -/
theorem short_rep (z : Int) (u : Value) (w : World) (h : Rep w u z) :
    Calls Tryd.prog 41 #[u] w fun e w' => e = .returned (.tuple #[.int .i64 (fit z), .bool (fitB z)]) ∧ Below w.heap.size w w' := by
  obtain ⟨x, cap, rfl, h⟩ := h
  by_cases hz : I64 z
  · rw [(fit_yes hz).1, (fit_yes hz).2]
    by_cases hs : z < 0
    · have e : decide (z < 0) = true := by simpa using hs
      rw [e]; exact short_neg z z.natAbs _ x cap w rfl rfl h hz hs
    · have e : decide (z < 0) = false := by simpa using hs
      rw [e]; exact short_pos z z.natAbs _ x cap w rfl rfl h hz hs
  · rw [(fit_no hz).1, (fit_no hz).2]
    exact short_out z _ _ x cap w rfl rfl h hz
end Go.Proofs.YtjaabjehegcnaaaDoor
