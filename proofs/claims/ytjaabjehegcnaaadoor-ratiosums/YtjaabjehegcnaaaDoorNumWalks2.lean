/-
  What each call of package num does (layer 1), second part: comparing, the calls that the document lists.
-/
import Derived.Test.YtjaabjehegcnaaaDoorNumWalks
namespace Go.Proofs.YtjaabjehegcnaaaDoor
open Go.RowKit

theorem or_any (p q : Int) (b : Nat) (w : World) (c0 : w.cell? ⟨b, 0, none⟩ = some (.int .i64 p)) (c1 : w.cell? ⟨b, 1, none⟩ = some (.int .i64 q)) :
    Calls Tryd.prog 78 #[.slice (some ⟨b, 0, none⟩) 2 2] w fun e w' => e = .returned (.int .i64 (orI p q)) ∧ w = w' := by
  go_enter Tryd.func78, Tryd.ntmps78
  go_wp2
  go_loop [8] (fun i => (i = .int .i64 0) ∨ (i = .int .i64 1 ∧ Hid (p = 0)) ∨ (i = .int .i64 2 ∧ Hid (p = 0) ∧ Hid (q = 0))) (fun i => 2 - (intOf i).toNat)
  case atStart => exact Or.inl rfl
  case round =>
    rcases hrel with rfl | ⟨rfl, hp⟩ | ⟨rfl, hp, hq⟩
    · by_cases h : p = 0
      · have hb : (p != 0) = false := by simp [h]
        have h' : Hid (p = 0) := h
        clear h
        go_wp2
        go_round
        case rel => exact Or.inr (Or.inl ⟨rfl, h'⟩)
        case measure => simp [intOf]
      · have hb : (p != 0) = true := by simp [h]
        go_wp2
        go_ret
        exact ⟨ret_int (by unfold orI; rw [if_neg h]), rfl⟩
    · by_cases h : q = 0
      · have hb : (q != 0) = false := by simp [h]
        have h' : Hid (q = 0) := h
        clear h
        go_wp2
        go_round
        case rel => exact Or.inr (Or.inr ⟨rfl, hp, h'⟩)
        case measure => simp [intOf]
      · have hb : (q != 0) = true := by simp [h]
        go_wp2
        go_ret
        exact ⟨ret_int (by unfold orI; rw [if_pos hp.out]), rfl⟩
    · go_wp2
      go_ret
      exact ⟨ret_int (by unfold orI; rw [if_pos hp.out, hq.out]), rfl⟩

theorem pair_cells {w : World} {n : Nat} (x y : Value) (t : TypeId) (hn : n = w.heap.size) : (w.alloc (.cells #[x, y] t)).cell? ⟨n, 0, none⟩ = some x ∧ (w.alloc (.cells #[x, y] t)).cell? ⟨n, 1, none⟩ = some y := by
  subst hn; simp

set_option maxHeartbeats 400000 in
theorem compare_any (x y : Int) (w : World) :
    Calls Tryd.prog 65 #[.agg #[.int .i64 (hi64 x), .int .u64 (lo64 x)], .agg #[.int .i64 (hi64 y), .int .u64 (lo64 y)]] w fun e w' => e = .returned (.int .i64 (cmp3 x y)) ∧ Below w.heap.size w w' := by
  rw [← cmp_two]
  go_enter Tryd.func65, Tryd.ntmps65
  go_wp2
  go_region_held3 (fun w' => w'.cell? ⟨w.heap.size, 0, none⟩ = some (.int .i64 (hi64 x)) ∧ w'.cell? ⟨w.heap.size, 1, none⟩ = some (.int .u64 (lo64 x)) ∧ w'.cell? ⟨w.heap.size + 1, 0, none⟩ = some (.int .i64 (hi64 y)) ∧ w'.cell? ⟨w.heap.size + 1, 1, none⟩ = some (.int .u64 (lo64 y))) (simp [go_sem, World.cell?_alloc_past])
    (first
      | (go_at_call 79; refine (cmpi_any _ _ _).mono ?_; rintro e w' ⟨rfl, rfl⟩)
      | (go_at_call 80; refine (cmpu_any _ _ _).mono ?_; rintro e w' ⟨rfl, rfl⟩)
      | (go_at_call 78; refine (or_any (cmp3 (hi64 x) (hi64 y)) (cmp3 (lo64 x) (lo64 y)) _ _ ?_ ?_).mono ?_; exact (pair_cells _ _ _ (by simp)).1; exact (pair_cells _ _ _ (by simp)).2; rintro e w' ⟨rfl, rfl⟩))
  go_wp2
  go_ret
  exact ⟨rfl, ((((Below.refl _ _).alloc (Nat.le_refl _) _).alloc (by simp) _).alloc (by simp; omega) _).drew⟩

theorem add_any (a b : Int) (ha : I64 a) (hb : I64 b) (w : World) :
    Calls Tryd.prog 49 #[.int .i64 a, .int .i64 b] w fun e w' => e = .returned (.tuple #[.int .i64 (fit (a + b)), .bool (fitB (a + b))]) ∧ Below w.heap.size w w' := by
  have hs : W128 (a + b) := by unfold I64 at *; unfold W128; omega
  go_enter Tryd.func49, Tryd.ntmps49
  go_wp2_with fail
  refine (widen_any a ha _).mono ?_
  rintro e w1 ⟨rfl, b1⟩
  go_wp2_with fail
  refine (widen_any b hb _).mono ?_
  rintro e w2 ⟨rfl, b2⟩
  go_wp2_with fail
  refine (plus_any a b hs _).mono ?_
  rintro e w3 ⟨rfl, b3⟩
  go_wp2_with fail
  refine (narrow_any (a + b) _).mono ?_
  rintro e w4 ⟨rfl, b4⟩
  go_wp2
  go_ret2
  exact ⟨rfl, on (on (on b1 b2) b3) b4⟩

theorem sub_any (a b : Int) (ha : I64 a) (hb : I64 b) (w : World) :
    Calls Tryd.prog 76 #[.int .i64 a, .int .i64 b] w fun e w' => e = .returned (.tuple #[.int .i64 (fit (a - b)), .bool (fitB (a - b))]) ∧ Below w.heap.size w w' := by
  have hs : W128 (a - b) := by unfold I64 at *; unfold W128; omega
  go_enter Tryd.func76, Tryd.ntmps76
  go_wp2_with fail
  refine (widen_any a ha _).mono ?_
  rintro e w1 ⟨rfl, b1⟩
  go_wp2_with fail
  refine (widen_any b hb _).mono ?_
  rintro e w2 ⟨rfl, b2⟩
  go_wp2_with fail
  refine (minus_any a b hs _).mono ?_
  rintro e w3 ⟨rfl, b3⟩
  go_wp2_with fail
  refine (narrow_any (a - b) _).mono ?_
  rintro e w4 ⟨rfl, b4⟩
  go_wp2
  go_ret2
  exact ⟨rfl, on (on (on b1 b2) b3) b4⟩

theorem neg_any (a : Int) (ha : I64 a) (w : World) :
    Calls Tryd.prog 61 #[.int .i64 a] w fun e w' => e = .returned (.tuple #[.int .i64 (fit (-a)), .bool (fitB (-a))]) ∧ Below w.heap.size w w' := by
  go_enter Tryd.func61, Tryd.ntmps61
  go_wp2_with fail
  refine (sub_any 0 a (by unfold I64; omega) ha _).mono ?_
  rintro e w1 ⟨rfl, b1⟩
  go_wp2
  go_ret2
  exact ⟨rfl, b1⟩

theorem mul_any (a b : Int) (ha : I64 a) (hb : I64 b) (w : World) :
    Calls Tryd.prog 48 #[.int .i64 a, .int .i64 b] w fun e w' => e = .returned (.tuple #[.int .i64 (fit (a * b)), .bool (fitB (a * b))]) ∧ Below w.heap.size w w' := by
  go_enter Tryd.func48, Tryd.ntmps48
  go_wp2_with fail
  refine (product_any a b ha hb _).mono ?_
  rintro e w1 ⟨rfl, b1⟩
  go_wp2_with fail
  refine (narrow_any (a * b) _).mono ?_
  rintro e w2 ⟨rfl, b2⟩
  go_wp2
  go_ret2
  exact ⟨rfl, on b1 b2⟩

theorem cross_any (a b c d : Int) (ha : I64 a) (hb : I64 b) (hc : I64 c) (hd : I64 d) (w : World) :
    Calls Tryd.prog 43 #[.int .i64 a, .int .i64 b, .int .i64 c, .int .i64 d] w fun e w' => e = .returned (.int .i64 (cmp3 (a * d) (c * b))) ∧ Below w.heap.size w w' := by
  go_enter Tryd.func43, Tryd.ntmps43
  go_wp2_with fail
  refine (product_any a d ha hd _).mono ?_
  rintro e w1 ⟨rfl, b1⟩
  go_wp2_with fail
  refine (product_any c b hc hb _).mono ?_
  rintro e w2 ⟨rfl, b2⟩
  go_wp2_with fail
  refine (compare_any (a * d) (c * b) _).mono ?_
  rintro e w3 ⟨rfl, b3⟩
  go_wp2
  go_ret
  exact ⟨rfl, on (on b1 b2) b3⟩

theorem candiv_any (a b : Int) (w : World) :
    Calls Tryd.prog 66 #[.int .i64 a, .int .i64 b] w fun e w' => e = .returned (.bool (divB a b)) ∧ w = w' := by
  by_cases h0 : b = 0
  · subst h0
    go_enter Tryd.func66, Tryd.ntmps66
    go_wp2
    go_ret
    exact ⟨by simp [divB], rfl⟩
  · have hb : (b != 0) = true := by simp [h0]
    by_cases h1 : a = -9223372036854775808
    · subst h1
      go_enter Tryd.func66, Tryd.ntmps66
      go_wp2
      go_ret
      exact ⟨by simp [divB, h0, Bool.beq_eq_decide_eq], rfl⟩
    · have ha : (a == -9223372036854775808) = false := by simp [h1]
      go_enter Tryd.func66, Tryd.ntmps66
      go_wp2
      go_ret
      exact ⟨by simp [divB, h0, h1], rfl⟩

theorem floor_no (a b : Int) (h : divB a b = false) (w : World) :
    Calls Tryd.prog 45 #[.int .i64 a, .int .i64 b] w fun e w' => e = .returned (.tuple #[.int .i64 0, .bool false]) ∧ w = w' := by
  go_enter Tryd.func45, Tryd.ntmps45
  go_wp2_with (go_at_call 66; refine (candiv_any _ _ _).mono ?_; rintro e w' ⟨rfl, rfl⟩)
  go_ret2
  exact ⟨rfl, rfl⟩
theorem ceil_no (a b : Int) (h : divB a b = false) (w : World) :
    Calls Tryd.prog 47 #[.int .i64 a, .int .i64 b] w fun e w' => e = .returned (.tuple #[.int .i64 0, .bool false]) ∧ w = w' := by
  go_enter Tryd.func47, Tryd.ntmps47
  go_wp2_with (go_at_call 66; refine (candiv_any _ _ _).mono ?_; rintro e w' ⟨rfl, rfl⟩)
  go_ret2
  exact ⟨rfl, rfl⟩

theorem ret_pair {k : IntKind} {a b : Int} {c : Bool} (h : a = b) : Ending.returned (.tuple #[.int k a, .bool c]) = .returned (.tuple #[.int k b, .bool c]) := by rw [h]

set_option maxHeartbeats 1000000 in
theorem floor_yes (a b : Int) (h : divB a b = true) (ha : I64 a) (w : World) :
    Calls Tryd.prog 45 #[.int .i64 a, .int .i64 b] w fun e w' => e = .returned (.tuple #[.int .i64 (a.fdiv b), .bool true]) ∧ w = w' := by
  have hq : ¬ b = 0 := (divB_out h).1
  have F1 := Lib.hid (floor_eq1 (a := a) (b := b) h ha)
  have F2 := Lib.hid (floor_eq2 (a := a) (b := b) h ha)
  clear ha
  by_cases h3 : a.tmod b = 0
  · have h3' : (a.tmod b != 0) = false := by simp [h3]
    have H3 := Lib.hid h3
    clear h3
    go_enter Tryd.func45, Tryd.ntmps45
    go_wp2_with (go_at_call 66; refine (candiv_any _ _ _).mono ?_; rintro e w' ⟨rfl, rfl⟩)
    go_ret2
    exact ⟨ret_pair (F1.out (Or.inl H3.out)), rfl⟩
  · have h3' : (a.tmod b != 0) = true := by simp [h3]
    have H3 := Lib.hid h3
    clear h3
    obtain ⟨s1, d1⟩ : ∃ s, decide (a < 0) = s := ⟨_, rfl⟩
    obtain ⟨s2, d2⟩ : ∃ s, decide (b < 0) = s := ⟨_, rfl⟩
    have D1 := Lib.hid d1
    have D2 := Lib.hid d2
    cases s1 <;> cases s2
    all_goals
      go_enter Tryd.func45, Tryd.ntmps45
      go_wp2_with (go_at_call 66; refine (candiv_any _ _ _).mono ?_; rintro e w' ⟨rfl, rfl⟩)
      go_ret2
      have c1 := D1.out
      have c2 := D2.out
      simp only [decide_eq_true_eq, decide_eq_false_iff_not] at c1 c2
      first
        | exact ⟨ret_pair (F1.out (Or.inr (by omega))), rfl⟩
        | exact ⟨ret_pair (F2.out H3.out (by omega)), rfl⟩

set_option maxHeartbeats 1000000 in
theorem ceil_yes (a b : Int) (h : divB a b = true) (ha : I64 a) (w : World) :
    Calls Tryd.prog 47 #[.int .i64 a, .int .i64 b] w fun e w' => e = .returned (.tuple #[.int .i64 (cdiv a b), .bool true]) ∧ w = w' := by
  have hq : ¬ b = 0 := (divB_out h).1
  have F1 := Lib.hid (ceil_eq1 (a := a) (b := b) h ha)
  have F2 := Lib.hid (ceil_eq2 (a := a) (b := b) h ha)
  clear ha
  by_cases h3 : a.tmod b = 0
  · have h3' : (a.tmod b != 0) = false := by simp [h3]
    have H3 := Lib.hid h3
    clear h3
    go_enter Tryd.func47, Tryd.ntmps47
    go_wp2_with (go_at_call 66; refine (candiv_any _ _ _).mono ?_; rintro e w' ⟨rfl, rfl⟩)
    go_ret2
    exact ⟨ret_pair (F1.out (Or.inl H3.out)), rfl⟩
  · have h3' : (a.tmod b != 0) = true := by simp [h3]
    have H3 := Lib.hid h3
    clear h3
    obtain ⟨s1, d1⟩ : ∃ s, decide (a < 0) = s := ⟨_, rfl⟩
    obtain ⟨s2, d2⟩ : ∃ s, decide (b < 0) = s := ⟨_, rfl⟩
    have D1 := Lib.hid d1
    have D2 := Lib.hid d2
    cases s1 <;> cases s2
    all_goals
      go_enter Tryd.func47, Tryd.ntmps47
      go_wp2_with (go_at_call 66; refine (candiv_any _ _ _).mono ?_; rintro e w' ⟨rfl, rfl⟩)
      go_ret2
      have c1 := D1.out
      have c2 := D2.out
      simp only [decide_eq_true_eq, decide_eq_false_iff_not] at c1 c2
      first
        | exact ⟨ret_pair (F1.out (Or.inr (by omega))), rfl⟩
        | exact ⟨ret_pair (F2.out H3.out (by omega)), rfl⟩

end Go.Proofs.YtjaabjehegcnaaaDoor
