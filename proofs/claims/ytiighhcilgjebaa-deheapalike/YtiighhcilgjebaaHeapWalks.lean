/-
  What the small calls of package mmheap do (layer 5): even, above, beats, last, bestOf, best. Nothing that was in memory before turns.
-/
import Derived.Test.YtiighhcilgjebaaHeapKit
import Derived.Test.YtiighhcilgjebaaShelf
namespace Go.Proofs.Ytiighhcilgjebaa
set_option maxRecDepth 100000
open Go.RowKit Go.Sort

theorem bitLen_even : ∀ (f i : Nat), i + 1 < 2 ^ f → (decide (Lib.bitLenAux f (i + 1) % 2 = 1)) = evn i
  | 0, i, h => by simp at h
  | f + 1, i, h => by
    by_cases h0 : i = 0
    · subst h0
      rw [evn_zero]
      have e : Lib.bitLenAux f 0 = 0 := by cases f <;> simp [Lib.bitLenAux]
      simp [Lib.bitLenAux, e]
    · have ih := bitLen_even f ((i - 1) / 2) (by rw [Nat.pow_succ] at h; omega)
      have e : Lib.bitLenAux (f + 1) (i + 1) = 1 + Lib.bitLenAux f ((i - 1) / 2 + 1) := by
        show (if i + 1 = 0 then 0 else 1 + Lib.bitLenAux f ((i + 1) / 2)) = _
        rw [if_neg (by omega), show (i + 1) / 2 = (i - 1) / 2 + 1 by omega]
      rw [e, evn_up (by omega), ← ih]
      generalize Lib.bitLenAux f ((i - 1) / 2 + 1) = b
      by_cases hb : b % 2 = 1
      · rw [decide_eq_true hb, decide_eq_false (by omega)]; rfl
      · rw [decide_eq_false hb, decide_eq_true (by omega)]; rfl
theorem bitLen_lt (f : Nat) : ∀ x, Lib.bitLenAux f x ≤ f := by
  induction f with
  | zero => intro x; simp [Lib.bitLenAux]
  | succ f ih =>
    intro x
    show (if x = 0 then 0 else 1 + Lib.bitLenAux f (x / 2)) ≤ f + 1
    have := ih (x / 2)
    split <;> omega

theorem even_any (i : Nat) (hi : i ≤ 100000) (w : World) : Calls Try.prog 68 #[.int .i64 (i : Int)] w fun e w' => e = .returned (.bool (evn i)) ∧ w = w' := by
  have L := fun w => Try.bits_Len64 ((i : Int) + 1) w (by omega) (by omega)
  have hb := bitLen_even 64 i (by omega)
  have hl := bitLen_lt 64 (i + 1)
  rw [show ((i : Int) + 1).toNat = i + 1 by omega] at L
  unfold Lib.bitLen at L
  rw [← hb]
  generalize Lib.bitLenAux 64 (i + 1) = b at *
  clear hb
  have L2 : ∀ w, Calls Try.prog 49 #[.int .u64 ((i : Int) + 1)] w fun e w' => e = .returned (.int .i64 (b : Int)) ∧ w' = w := by
    intro w
    go_enter Try.func49, Try.ntmps49
    go_wp2_with (go_at_call 63; (with_reducible refine (L _).mono ?_); rintro e w' ⟨rfl, rfl⟩)
    go_ret
    exact ⟨rfl, rfl⟩
  clear L
  by_cases hc : b % 2 = 1
  · have hc' : (b : Int) % 2 = 1 := by omega
    rw [decide_eq_true hc]
    clear hc
    go_enter Try.func68, Try.ntmps68
    go_wp2_with (go_at_call 49; (with_reducible refine (L2 _).mono ?_); rintro e w' ⟨rfl, rfl⟩)
    go_ret
    exact ⟨rfl, rfl⟩
  · have hc' : (b : Int) % 2 = 0 := by omega
    rw [decide_eq_false hc]
    clear hc
    go_enter Try.func68, Try.ntmps68
    go_wp2_with (go_at_call 49; (with_reducible refine (L2 _).mono ?_); rintro e w' ⟨rfl, rfl⟩)
    go_ret
    exact ⟨rfl, rfl⟩
theorem above_any (i : Nat) (h0 : 0 < i) (hi : i ≤ 100000) (w : World) : Calls Try.prog 71 #[.int .i64 (i : Int)] w fun e w' => e = .returned (.int .i64 (((i - 1) / 2 : Nat) : Int)) ∧ w = w' := by
  obtain ⟨m, hm⟩ : ∃ m : Nat, m = (i - 1) / 2 := ⟨_, rfl⟩
  have hd : ((i : Int) - 1) / 2 = (m : Int) := by omega
  rw [← hm]
  have HD := Lib.hid hd
  clear hm hd
  go_enter Try.func71, Try.ntmps71
  go_wp2
  go_ret
  refine ⟨?_, rfl⟩
  show Ending.returned (.int .i64 (((i : Int) - 1) / 2)) = _
  rw [HD.out]

set_option maxHeartbeats 1000000 in
theorem beats_any (l : List En) (g cap i k : Nat) (up : Bool) (w : World) (hL : ListAt w g l) (hi : i < l.length) (hk : k < l.length) :
    Calls Try.prog 72 #[.slice (some ⟨g, 0, none⟩) l.length cap, .int .i64 (i : Int), .int .i64 (k : Int), .bool up] w fun e w' => e = .returned (.bool (bltB up (nth l i) (nth l k))) ∧ More w w' := by
  have h1 := hL.nth hi
  have h2 := hL.nth hk
  have F := Lib.hid ((LTwo.mk (w := w) ⟨h1.1, h1.2.1, h1.2.2.1, h1.2.2.2, h2.1, h2.2.1, h2.2.2.1, h2.2.2.2⟩ hL.1 (More.refl w)).next (More.refl _).drew)
  generalize nth l i = x at *
  generalize nth l k = y at *
  generalize l.length = n at *
  have c01 : (0 : Int) ≤ (i : Int) := by omega
  have c02 : (i : Int) < (n : Int) := by omega
  have c03 : (0 : Int) ≤ (k : Int) := by omega
  have c04 : (k : Int) < (n : Int) := by omega
  clear h1 h2 hL
  cases up with
  | true =>
    have RL := less_any x y
    unfold entV at RL
    show Calls _ _ _ _ fun e w' => e = .returned (.bool (eltB x y)) ∧ More w w'
    generalize eltB x y = r at *
    go_enter Try.func72, Try.ntmps72
    go_wp2
    go_region_held3 (fun w' => w'.cell? ⟨g, i * 4, none⟩ = some (.int .i64 x.b) ∧ w'.cell? ⟨g, i * 4 + 1, none⟩ = some (.int .i64 x.d) ∧ w'.cell? ⟨g, i * 4 + 2, none⟩ = some (.int .i64 x.s) ∧ w'.cell? ⟨g, i * 4 + 3, none⟩ = some (.int .i64 x.i) ∧ w'.cell? ⟨g, k * 4, none⟩ = some (.int .i64 y.b) ∧ w'.cell? ⟨g, k * 4 + 1, none⟩ = some (.int .i64 y.d) ∧ w'.cell? ⟨g, k * 4 + 2, none⟩ = some (.int .i64 y.s) ∧ w'.cell? ⟨g, k * 4 + 3, none⟩ = some (.int .i64 y.i)) (exact F.out.cs)
      (first
        | (go_at_call 24; (with_reducible refine (RL _).mono ?_); rintro e wn ⟨rfl, mo⟩; have F := Lib.hid (F.out.next mo); clear mo))
    go_wp2
    go_ret
    exact ⟨rfl, F.out.M⟩
  | false =>
    have RL := less_any y x
    unfold entV at RL
    show Calls _ _ _ _ fun e w' => e = .returned (.bool (eltB y x)) ∧ More w w'
    generalize eltB y x = r at *
    go_enter Try.func72, Try.ntmps72
    go_wp2
    go_region_held3 (fun w' => w'.cell? ⟨g, i * 4, none⟩ = some (.int .i64 x.b) ∧ w'.cell? ⟨g, i * 4 + 1, none⟩ = some (.int .i64 x.d) ∧ w'.cell? ⟨g, i * 4 + 2, none⟩ = some (.int .i64 x.s) ∧ w'.cell? ⟨g, i * 4 + 3, none⟩ = some (.int .i64 x.i) ∧ w'.cell? ⟨g, k * 4, none⟩ = some (.int .i64 y.b) ∧ w'.cell? ⟨g, k * 4 + 1, none⟩ = some (.int .i64 y.d) ∧ w'.cell? ⟨g, k * 4 + 2, none⟩ = some (.int .i64 y.s) ∧ w'.cell? ⟨g, k * 4 + 3, none⟩ = some (.int .i64 y.i)) (exact F.out.cs)
      (first
        | (go_at_call 24; (with_reducible refine (RL _).mono ?_); rintro e wn ⟨rfl, mo⟩; have F := Lib.hid (F.out.next mo); clear mo))
    go_wp2
    go_ret
    exact ⟨rfl, F.out.M⟩

set_option maxHeartbeats 1000000 in
theorem last_any (l : List En) (h0 : 0 < l.length) (hn : l.length ≤ 1000) (g cap : Nat) (w : World) (hL : ListAt w g l) :
    Calls Try.prog 119 #[.slice (some ⟨g, 0, none⟩) l.length cap] w fun e w' => e = .returned (.int .i64 (lastP l : Int)) ∧ More w w' := by
  by_cases h3 : l.length < 3
  · have e : ((lastP l : Nat) : Int) = (l.length : Int) - 1 := by unfold lastP; rw [if_pos h3]; omega
    rw [e]
    generalize l.length = n at *
    have h3' : (n : Int) < 3 := by omega
    clear e hL
    go_enter Try.func119, Try.ntmps119
    go_wp2
    go_ret
    exact ⟨rfl, More.refl _⟩
  · have BT := beats_any l g cap 2 1 false w hL (by omega) (by omega)
    rw [show ((2 : Nat) : Int) = 2 from rfl, show ((1 : Nat) : Int) = 1 from rfl] at BT
    have e : ((lastP l : Nat) : Int) = if bltB false (nth l 2) (nth l 1) = true then 2 else 1 := by unfold lastP; rw [if_neg h3]; split <;> rfl
    rw [e]
    generalize bltB false (nth l 2) (nth l 1) = r at *
    generalize l.length = n at *
    have h3' : ¬ (n : Int) < 3 := by omega
    clear e hL
    cases r with
    | true =>
      rw [if_pos rfl]
      go_enter Try.func119, Try.ntmps119
      go_wp2_with fail
      with_reducible refine BT.mono ?_
      rintro e wn ⟨rfl, mo⟩
      have MO := Lib.hid mo
      clear mo BT
      go_wp2
      go_ret
      exact ⟨rfl, MO.out⟩
    | false =>
      rw [if_neg (by simp)]
      go_enter Try.func119, Try.ntmps119
      go_wp2_with fail
      with_reducible refine BT.mono ?_
      rintro e wn ⟨rfl, mo⟩
      have MO := Lib.hid mo
      clear mo BT
      go_wp2
      go_ret
      exact ⟨rfl, MO.out⟩

/-- What bestOf answers. -/
def AnsBestOf (l : List En) (up : Bool) (best frm hi : Nat) (w : World) (e : Ending) (w' : World) : Prop :=
  ∃ b : Nat, IsBestOf l up best frm hi b ∧ b < l.length ∧ e = .returned (.int .i64 (b : Int)) ∧ More w w'
/-- The state of its loop: the place so far, and the next one. -/
def BestSo (l : List En) (up : Bool) (best frm H : Nat) (w : World) (vb vk : Value) (wr : World) : Prop :=
  ∃ b k : Nat, vb = .int .i64 (b : Int) ∧ vk = .int .i64 (k : Int) ∧ frm ≤ k ∧ (k ≤ H ∨ k = frm) ∧ b < l.length ∧ IsBestOf l up best frm k b ∧ More w wr
set_option maxHeartbeats 2000000 in
theorem bestOf_any (l : List En) (hn : l.length ≤ 1000) (g cap best frm m : Nat) (hb : best < l.length) (hf : frm ≤ 10000) (hm : m ≤ 10) (up : Bool) (w : World) (hL : ListAt w g l) :
    Calls Try.prog 80 #[.slice (some ⟨g, 0, none⟩) l.length cap, .int .i64 (best : Int), .int .i64 (frm : Int), .int .i64 (m : Int), .bool up] w (AnsBestOf l up best frm (max frm (min (frm + m) l.length)) w) := by
  obtain ⟨n, en⟩ : ∃ n, l.length = n := ⟨_, rfl⟩
  have EN := Lib.hid en
  have HL := Lib.hid hL
  have HB : ∀ H, Hid (BestSo l up best frm H w (.int .i64 (best : Int)) (.int .i64 (frm : Int)) w) := fun H => ⟨best, frm, rfl, rfl, Nat.le_refl _, .inr rfl, hb, IsBestOf.start _ _ _ _, More.refl _⟩
  rw [en] at hn hb ⊢
  obtain ⟨H, eH⟩ : ∃ H : Nat, min (frm + m) n = H := ⟨_, rfl⟩
  have hH : min ((frm : Int) + (m : Int)) (n : Int) = (H : Int) := by omega
  have hH1 : H ≤ n := by omega
  rw [eH]
  replace HB := HB H
  clear en hL eH
  go_enter Try.func80, Try.ntmps80
  go_wp2
  go_loopw [1, 11] (fun vb vk wr => BestSo l up best frm H w vb vk wr) (fun _ vk _ => 20000 - (intOf vk).toNat)
  case atStart => exact HB.out
  case round =>
    obtain ⟨b, k, rfl, rfl, hfk, hkl, hbl, hB, hM⟩ := hrel
    by_cases hlt : k < H
    · have hlt' : (k : Int) < (H : Int) := by omega
      have hk1 : k < l.length := by rw [EN.out]; omega
      have BT := beats_any l g cap k b up wr (HL.out.next hM.below) hk1 hbl
      rw [EN.out] at BT
      have HI := Lib.hid hB
      have HM := Lib.hid hM
      have HBL := Lib.hid hbl
      have HK1 := Lib.hid hk1
      cases hr : bltB up (nth l k) (nth l b) with
      | true =>
        have hr' := (bltB_iff _ _ _).1 hr
        have HY := Lib.hid (HI.out.yes hfk hr')
        rw [hr] at BT
        clear hr hr' hM hB hbl hkl hk1 HI HB
        go_wp2_with fail
        with_reducible refine BT.mono ?_
        rintro e wn ⟨rfl, mo⟩
        have MO := Lib.hid (HM.out.trans mo)
        clear mo BT
        go_wp2
        go_roundw
        case rel => exact ⟨k, k + 1, rfl, by go_num, by omega, .inl (by omega), HK1.out, HY.out, MO.out⟩
        case measure => simp [intOf]; omega
      | false =>
        have hr' := (bltB_false _ _ _).1 hr
        have HY := Lib.hid (HI.out.no hr')
        rw [hr] at BT
        clear hr hr' hM hB hbl hkl hk1 HI HB
        go_wp2_with fail
        with_reducible refine BT.mono ?_
        rintro e wn ⟨rfl, mo⟩
        have MO := Lib.hid (HM.out.trans mo)
        clear mo BT
        go_wp2
        go_roundw
        case rel => exact ⟨b, k + 1, rfl, by go_num, by omega, .inl (by omega), HBL.out, HY.out, MO.out⟩
        case measure => simp [intOf]; omega
    · have hlt' : ¬ (k : Int) < (H : Int) := by omega
      have E : Hid (AnsBestOf l up best frm (max frm H) w (.returned (.int .i64 (b : Int))) wr) := by
        have e : max frm H = k := by omega
        rw [e]
        exact ⟨b, hB, hbl, rfl, hM⟩
      clear hM hB hbl hkl HB
      go_wp2
      go_ret
      exact E.out

/-- What best answers. -/
def AnsBest (l : List En) (up : Bool) (i : Nat) (w : World) (e : Ending) (w' : World) : Prop :=
  ∃ b : Nat, IsBest l up i b ∧ b < l.length ∧ e = .returned (.int .i64 (b : Int)) ∧ More w w'
set_option maxHeartbeats 1000000 in
theorem best_any (l : List En) (hn : l.length ≤ 1000) (g cap i : Nat) (hi : i < l.length) (up : Bool) (w : World) (hL : ListAt w g l) :
    Calls Try.prog 69 #[.slice (some ⟨g, 0, none⟩) l.length cap, .int .i64 (i : Int), .bool up] w (AnsBest l up i w) := by
  have B1 := bestOf_any l hn g cap i (2 * i + 1) 2 hi (by omega) (by omega) up w hL
  have B2 := fun b hb w' h => bestOf_any l hn g cap b (4 * i + 3) 4 hb (by omega) (by omega) up w' h
  have HL := Lib.hid hL
  have HI : Hid (∀ b1 b w1 w2, IsBestOf l up i (2 * i + 1) (max (2 * i + 1) (min (2 * i + 1 + 2) l.length)) b1 → IsBestOf l up b1 (4 * i + 3) (max (4 * i + 3) (min (4 * i + 3 + 4) l.length)) b → b < l.length → More w w1 → More w1 w2 → AnsBest l up i w (.returned (.int .i64 (b : Int))) w2) :=
    fun b1 b w1 w2 h1 h2 hb m1 m2 => ⟨b, isBest_of rfl rfl h1 h2, hb, rfl, m1.trans m2⟩
  rw [show (((2 * i + 1 : Nat)) : Int) = 2 * (i : Int) + 1 by omega, show ((2 : Nat) : Int) = 2 from rfl] at B1
  rw [show (((4 * i + 3 : Nat)) : Int) = 4 * (i : Int) + 3 by omega, show ((4 : Nat) : Int) = 4 from rfl] at B2
  obtain ⟨n, en⟩ : ∃ n, l.length = n := ⟨_, rfl⟩
  have EN := Lib.hid en
  rw [en] at hn hi B1 B2 ⊢
  have HB2 := Lib.hid B2
  clear en hL B2
  go_enter Try.func69, Try.ntmps69
  go_wp2_with fail
  with_reducible refine B1.mono ?_
  rintro e w1 ⟨b1, hI1, hb1, rfl, m1⟩
  have B3 := HB2.out b1 (by rw [← EN.out]; exact hb1) w1 (HL.out.next m1.below)
  have H1 := Lib.hid hI1
  have M1 := Lib.hid m1
  clear hI1 m1 B1 HB2
  go_wp2_with fail
  with_reducible refine B3.mono ?_
  rintro e w2 ⟨b, hI2, hb, rfl, m2⟩
  have E := Lib.hid (HI.out b1 b w1 w2 (by rw [EN.out]; exact H1.out) (by rw [EN.out]; exact hI2) hb M1.out m2)
  clear hI2 hb m2 B3
  go_wp2
  go_ret
  exact E.out
end Go.Proofs.Ytiighhcilgjebaa
