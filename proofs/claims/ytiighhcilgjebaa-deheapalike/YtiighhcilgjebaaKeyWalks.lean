/-
  What each call of package key (layer 4) does, first part: the library's cmp.Compare and cmp.Or, Compare, compareEntries, Less. Nothing that was in memory before turns.
-/
import Derived.Test.YtiighhcilgjebaaRows
import Derived.Test.YtiighhcilgjebaaKeyMath
import Derived.WalkSpells
import Derived.WalkLawsBesides
import Derived.Deep.RegionHeld3
import Derived.Deep.RegionWith
import Derived.BigQuiet
import Derived.Sort.Grow
namespace Go.Proofs.Ytiighhcilgjebaa
set_option maxRecDepth 100000
open Go.RowKit Go.Sort

theorem nan64_any (x : Int) (w : World) : Calls Try.prog 64 #[.int .i64 x] w fun e w' => e = .returned (.bool false) ∧ w' = w := by
  go_enter Try.func64, Try.ntmps64
  go_wp2
  go_ret
  exact ⟨rfl, rfl⟩
theorem nanI_any (x : Int) (w : World) : Calls Try.prog 51 #[.int .i64 x] w fun e w' => e = .returned (.bool false) ∧ w' = w := by
  go_enter Try.func51, Try.ntmps51
  go_wp2
  go_ret
  exact ⟨rfl, rfl⟩
theorem cmp64_any (x y : Int) (w : World) : Calls Try.prog 50 #[.int .i64 x, .int .i64 y] w fun e w' => e = .returned (.int .i64 (cmp3 x y)) ∧ w' = w := by
  have N := nan64_any
  rcases cmp3_cases x y with ⟨e1, h1⟩ | ⟨e1, h1⟩ | ⟨e1, h1⟩
  · rw [e1]
    clear e1
    go_enter Try.func50, Try.ntmps50
    go_wp2_with (go_at_call 64; refine (N _ _).mono ?_; rintro e w' ⟨rfl, rfl⟩)
    go_ret
    exact ⟨rfl, rfl⟩
  · subst h1
    rw [e1]
    clear e1
    go_enter Try.func50, Try.ntmps50
    go_wp2_with (go_at_call 64; refine (N _ _).mono ?_; rintro e w' ⟨rfl, rfl⟩)
    go_ret
    exact ⟨rfl, rfl⟩
  · rw [e1]
    have h2 : ¬ x < y := by omega
    clear e1
    go_enter Try.func50, Try.ntmps50
    go_wp2_with (go_at_call 64; refine (N _ _).mono ?_; rintro e w' ⟨rfl, rfl⟩)
    go_ret
    exact ⟨rfl, rfl⟩
theorem cmpI_any (x y : Int) (w : World) : Calls Try.prog 42 #[.int .i64 x, .int .i64 y] w fun e w' => e = .returned (.int .i64 (cmp3 x y)) ∧ w' = w := by
  have N := nanI_any
  rcases cmp3_cases x y with ⟨e1, h1⟩ | ⟨e1, h1⟩ | ⟨e1, h1⟩
  · rw [e1]
    clear e1
    go_enter Try.func42, Try.ntmps42
    go_wp2_with (go_at_call 51; refine (N _ _).mono ?_; rintro e w' ⟨rfl, rfl⟩)
    go_ret
    exact ⟨rfl, rfl⟩
  · subst h1
    rw [e1]
    clear e1
    go_enter Try.func42, Try.ntmps42
    go_wp2_with (go_at_call 51; refine (N _ _).mono ?_; rintro e w' ⟨rfl, rfl⟩)
    go_ret
    exact ⟨rfl, rfl⟩
  · rw [e1]
    have h2 : ¬ x < y := by omega
    clear e1
    go_enter Try.func42, Try.ntmps42
    go_wp2_with (go_at_call 51; refine (N _ _).mono ?_; rintro e w' ⟨rfl, rfl⟩)
    go_ret
    exact ⟨rfl, rfl⟩

/-- The first that is not 0. -/
def orL : List Int → Int
  | [] => 0
  | x :: r => orI x (orL r)
theorem orL_skip : ∀ (l : List Int) (k : Nat), (∀ j, j < k → l.getD j 0 = 0) → orL (l.drop k) = orL l
  | _, 0, _ => by simp
  | [], k + 1, _ => by simp
  | x :: r, k + 1, h => by
    have h0 : x = 0 := by simpa using h 0 (by omega)
    have := orL_skip r k (fun j hj => by simpa using h (j + 1) (by omega))
    subst h0
    show orL (r.drop k) = orI 0 (orL r)
    rw [this, orI_zero]
theorem orL_at {l : List Int} {k : Nat} (hk : k < l.length) (h : ∀ j, j < k → l.getD j 0 = 0) (hz : l.getD k 0 ≠ 0) : orL l = l.getD k 0 := by
  rw [← orL_skip l k h, List.drop_eq_getElem_cons hk]
  have e : l.getD k 0 = l[k] := by simp [List.getD_eq_getElem?_getD, hk]
  rw [e] at hz ⊢
  exact orI_ne _ hz
theorem orL_none {l : List Int} (h : ∀ j, j < l.length → l.getD j 0 = 0) : orL l = 0 := by
  rw [← orL_skip l l.length h]; simp [orL]

set_option maxHeartbeats 1000000 in
theorem or_any (g cap : Nat) (l : List Int) (hn : l.length ≤ 100) (w : World) (h : ∀ i, i < l.length → w.cell? ⟨g, i, none⟩ = some (.int .i64 (l.getD i 0))) :
    Calls Try.prog 40 #[.slice (some ⟨g, 0, none⟩) l.length cap] w fun e w' => e = .returned (.int .i64 (orL l)) ∧ w' = w := by
  obtain ⟨n, hm⟩ : ∃ n, l.length = n := ⟨_, rfl⟩
  rw [hm] at hn
  have HM := Lib.hid hm
  have H := Lib.hid h
  rw [hm]
  clear hm h
  go_enter Try.func40, Try.ntmps40
  go_wp2
  go_loopw [8] (fun i wr => ∃ k : Nat, k ≤ n ∧ i = .int .i64 k ∧ Hid (∀ j, j < k → l.getD j 0 = 0) ∧ wr = w) (fun i _ => n - (intOf i).toNat)
  case atStart => exact ⟨0, by omega, rfl, fun j hj => absurd hj (by omega), rfl⟩
  case round =>
    obtain ⟨k, hk, rfl, hz, rfl⟩ := hrel
    by_cases hlt : k < n
    · have hc := H.out k (by rw [HM.out]; exact hlt)
      have hat := fun h => orL_at (l := l) (k := k) (by rw [HM.out]; exact hlt) hz.out h
      have HZ : Hid (l.getD k 0 = 0 → ∀ j, j < k + 1 → l.getD j 0 = 0) := fun h0 j hj => by
        rcases Nat.lt_or_ge j k with h' | h'
        · exact hz.out j h'
        · obtain rfl : j = k := by omega
          exact h0
      generalize l.getD k 0 = v at hc hat HZ
      have HA := Lib.hid hat
      clear hat hz
      by_cases hv : v = 0
      · subst hv
        go_wp2
        go_roundw
        case rel => exact ⟨k + 1, by omega, by go_num, HZ.out rfl, trivial⟩
        case measure => simp [intOf]; omega
      · have hv' : (v == 0) = false := by simpa using hv
        have E := Lib.hid (HA.out hv)
        clear HA HZ
        go_wp2
        go_ret
        exact ⟨by rw [E.out]; rfl, rfl⟩
    · obtain rfl : k = n := by omega
      have E := Lib.hid (orL_none (l := l) (fun j hj => hz.out j (by rw [← HM.out]; exact hj)))
      clear hz
      go_wp2
      go_ret
      exact ⟨by rw [E.out]; rfl, rfl⟩

/-- The world has grown: draws, and new blocks. -/
def More (w w' : World) : Prop := ∃ q os, w' = Go.Sort.grow (w.drewN q) os
theorem More.below {w w' : World} (h : More w w') : Below w.heap.size w w' := by
  obtain ⟨q, os, rfl⟩ := h
  exact ⟨rfl, rfl, rfl, by show w.heap.size ≤ (w.heap ++ os).size; rw [Array.size_append]; omega, fun j hj => Array.getElem?_append_left hj⟩
theorem More.refl (w : World) : More w w := ⟨0, #[], by simp [Go.Sort.grow, World.drewN]⟩
theorem More.trans {w w' w'' : World} (h : More w w') (k : More w' w'') : More w w'' := by
  obtain ⟨q, os, rfl⟩ := h
  obtain ⟨q', os', rfl⟩ := k
  exact ⟨q + q', os ++ os', by simp [Go.Sort.grow, World.drewN, Nat.add_assoc]⟩
theorem More.alloc {w w' : World} (h : More w w') (o : Obj) : More w (w'.alloc o) :=
  h.trans ⟨0, #[o], Go.Sort.alloc_eq_grow _ _⟩
theorem More.drew {w w' : World} (h : More w w') : More w w'.drew :=
  h.trans ⟨1, #[], by rw [Go.Sort.grow_empty]; rfl⟩

theorem or3_any (g : Nat) (a b c : Int) (w : World) (h0 : w.cell? ⟨g, 0, none⟩ = some (.int .i64 a)) (h1 : w.cell? ⟨g, 1, none⟩ = some (.int .i64 b)) (h2 : w.cell? ⟨g, 2, none⟩ = some (.int .i64 c)) :
    Calls Try.prog 40 #[.slice (some ⟨g, 0, none⟩) 3 3] w fun e w' => e = .returned (.int .i64 (orI a (orI b c))) ∧ w' = w := by
  have h := or_any g 3 [a, b, c] (by simp) w (fun i hi => by
    match i, hi with
    | 0, _ => exact h0
    | 1, _ => exact h1
    | 2, _ => exact h2)
  have e : orL [a, b, c] = orI a (orI b c) := by
    show orI a (orI b (orI c 0)) = _
    congr 2
    unfold orI; split <;> simp_all
  rw [e] at h
  exact h
theorem or2_any (g : Nat) (a b : Int) (w : World) (h0 : w.cell? ⟨g, 0, none⟩ = some (.int .i64 a)) (h1 : w.cell? ⟨g, 1, none⟩ = some (.int .i64 b)) :
    Calls Try.prog 40 #[.slice (some ⟨g, 0, none⟩) 2 2] w fun e w' => e = .returned (.int .i64 (orI a b)) ∧ w' = w := by
  have h := or_any g 2 [a, b] (by simp) w (fun i hi => by
    match i, hi with
    | 0, _ => exact h0
    | 1, _ => exact h1)
  have e : orL [a, b] = orI a b := by
    show orI a (orI b 0) = _
    congr 1
    unfold orI; split <;> simp_all
  rw [e] at h
  exact h

/-- A key in a block of its own. -/
structure KBox (n : Nat) (b d s : Int) (w : World) : Prop where
  mk ::
  c0 : w.cell? ⟨n, 0, none⟩ = some (.int .i64 b)
  c1 : w.cell? ⟨n, 1, none⟩ = some (.int .i64 d)
  c2 : w.cell? ⟨n, 2, none⟩ = some (.int .i64 s)
  size : n < w.heap.size
theorem KBox.next {n : Nat} {b d s : Int} {w w' : World} (h : KBox n b d s w) (hb : Below w.heap.size w w') : KBox n b d s w' :=
  ⟨by rw [hb.cell (by exact h.size)]; exact h.c0, by rw [hb.cell (by exact h.size)]; exact h.c1, by rw [hb.cell (by exact h.size)]; exact h.c2, Nat.lt_of_lt_of_le h.size hb.size⟩
theorem kbox_new (w : World) (b d s : Int) (t : TypeId) : KBox w.heap.size b d s (w.alloc (.cells #[.int .i64 b, .int .i64 d, .int .i64 s] t)) :=
  ⟨by simp [go_sem], by simp [go_sem], by simp [go_sem], by simp⟩
/-- Two keys in blocks of their own; the world has grown. -/
structure KTwo (w : World) (g h : Nat) (b d s b' d' s' : Int) (wr : World) : Prop where
  mk ::
  A : KBox g b d s wr
  B : KBox h b' d' s' wr
  M : More w wr
theorem KTwo.next {w wr w' : World} {g h : Nat} {b d s b' d' s' : Int} (k : KTwo w g h b d s b' d' s' wr) (m : More wr w') : KTwo w g h b d s b' d' s' w' :=
  ⟨k.A.next m.below, k.B.next m.below, k.M.trans m⟩

set_option maxHeartbeats 1000000 in
theorem compare_any (b d s b' d' s' : Int) (w : World) :
    Calls Try.prog 41 #[.agg #[.int .i64 b, .int .i64 d, .int .i64 s], .agg #[.int .i64 b', .int .i64 d', .int .i64 s']] w fun e w' => e = .returned (.int .i64 (kcm b d s b' d' s')) ∧ More w w' := by
  have C1 := cmp64_any b b'
  have C2 := cmpI_any d' d
  have C3 := cmp64_any s s'
  unfold kcm
  generalize cmp3 b b' = x1 at *
  generalize cmp3 d' d = x2 at *
  generalize cmp3 s s' = x3 at *
  have O := fun g => or3_any g x1 x2 x3
  go_enter Try.func41, Try.ntmps41
  go_wp2
  have F := KTwo.mk (w := w) ((kbox_new w b d s 30).next (More.alloc (More.refl _) (.cells #[.int .i64 b', .int .i64 d', .int .i64 s'] 30)).below) (by have h := kbox_new (w.alloc (.cells #[.int .i64 b, .int .i64 d, .int .i64 s] 30)) b' d' s' 30; rw [World.size_alloc] at h; exact h) (((More.refl w).alloc _).alloc _)
  have F2 := Lib.hid (F.next ((More.refl _).drew))
  have F3 := Lib.hid (F.next ((More.alloc (More.refl _) (.cells #[.int .i64 x1, .int .i64 x2, .int .i64 x3] 3)).drew))
  clear F
  generalize ((w.alloc (.cells #[.int .i64 b, .int .i64 d, .int .i64 s] 30)).alloc (.cells #[.int .i64 b', .int .i64 d', .int .i64 s'] 30)) = w2 at *
  go_region_held3 (fun w' => w'.cell? ⟨w.heap.size, 0, none⟩ = some (.int .i64 b) ∧ w'.cell? ⟨w.heap.size, 1, none⟩ = some (.int .i64 d) ∧ w'.cell? ⟨w.heap.size, 2, none⟩ = some (.int .i64 s) ∧ w'.cell? ⟨w.heap.size + 1, 0, none⟩ = some (.int .i64 b') ∧ w'.cell? ⟨w.heap.size + 1, 1, none⟩ = some (.int .i64 d') ∧ w'.cell? ⟨w.heap.size + 1, 2, none⟩ = some (.int .i64 s')) (first | exact ⟨F2.out.A.c0, F2.out.A.c1, F2.out.A.c2, F2.out.B.c0, F2.out.B.c1, F2.out.B.c2⟩ | exact ⟨F3.out.A.c0, F3.out.A.c1, F3.out.A.c2, F3.out.B.c0, F3.out.B.c1, F3.out.B.c2⟩)
    (first
      | (go_at_call 50; (with_reducible refine (C1 _).mono ?_); rintro e wn ⟨rfl, rfl⟩)
      | (go_at_call 42; (with_reducible refine (C2 _).mono ?_); rintro e wn ⟨rfl, rfl⟩)
      | (go_at_call 50; (with_reducible refine (C3 _).mono ?_); rintro e wn ⟨rfl, rfl⟩)
      | (go_at_call 40; (with_reducible refine (O _ _ (by simp [go_sem]) (by simp [go_sem]) (by simp [go_sem])).mono ?_); rintro e wn ⟨rfl, rfl⟩))
  all_goals
    go_wp2
    go_ret
    exact ⟨rfl, F3.out.M⟩

/-- An entry in a block of its own. -/
structure EBox (n : Nat) (x : En) (w : World) : Prop where
  mk ::
  c0 : w.cell? ⟨n, 0, none⟩ = some (.int .i64 x.b)
  c1 : w.cell? ⟨n, 1, none⟩ = some (.int .i64 x.d)
  c2 : w.cell? ⟨n, 2, none⟩ = some (.int .i64 x.s)
  c3 : w.cell? ⟨n, 3, none⟩ = some (.int .i64 x.i)
  size : n < w.heap.size
theorem EBox.next {n : Nat} {x : En} {w w' : World} (h : EBox n x w) (hb : Below w.heap.size w w') : EBox n x w' :=
  ⟨by rw [hb.cell (by exact h.size)]; exact h.c0, by rw [hb.cell (by exact h.size)]; exact h.c1, by rw [hb.cell (by exact h.size)]; exact h.c2, by rw [hb.cell (by exact h.size)]; exact h.c3, Nat.lt_of_lt_of_le h.size hb.size⟩
theorem ebox_new (w : World) (b d s i : Int) (t : TypeId) : EBox w.heap.size ⟨b, d, s, i⟩ (w.alloc (.cells #[.int .i64 b, .int .i64 d, .int .i64 s, .int .i64 i] t)) :=
  ⟨by simp [go_sem], by simp [go_sem], by simp [go_sem], by simp [go_sem], by simp⟩
/-- Two entries in blocks of their own; the world has grown. -/
structure ETwo (w : World) (g h : Nat) (x y : En) (wr : World) : Prop where
  mk ::
  A : EBox g x wr
  B : EBox h y wr
  M : More w wr
theorem ETwo.next {w wr w' : World} {g h : Nat} {x y : En} (k : ETwo w g h x y wr) (m : More wr w') : ETwo w g h x y w' :=
  ⟨k.A.next m.below, k.B.next m.below, k.M.trans m⟩
/-- An entry as a value. -/
def entV (x : En) : Value := .agg #[.int .i64 x.b, .int .i64 x.d, .int .i64 x.s, .int .i64 x.i]

set_option maxHeartbeats 1000000 in
theorem entries_any (x y : En) (w : World) :
    Calls Try.prog 35 #[entV x, entV y] w fun e w' => e = .returned (.int .i64 (ecm x y)) ∧ More w w' := by
  obtain ⟨b, d, s, i⟩ := x
  obtain ⟨b', d', s', i'⟩ := y
  have C1 := compare_any b d s b' d' s'
  have C2 := cmpI_any i i'
  unfold ecm entV
  simp only
  generalize kcm b d s b' d' s' = x1 at *
  generalize cmp3 i i' = x2 at *
  have O := fun g => or2_any g x1 x2
  go_enter Try.func35, Try.ntmps35
  go_wp2
  have F := ETwo.mk (w := w) ((ebox_new w b d s i 32).next (More.alloc (More.refl _) (.cells #[.int .i64 b', .int .i64 d', .int .i64 s', .int .i64 i'] 32)).below) (by have h := ebox_new (w.alloc (.cells #[.int .i64 b, .int .i64 d, .int .i64 s, .int .i64 i] 32)) b' d' s' i' 32; rw [World.size_alloc] at h; exact h) (((More.refl w).alloc _).alloc _)
  have F2 := Lib.hid (F.next ((More.refl _).drew))
  clear F
  generalize ((w.alloc (.cells #[.int .i64 b, .int .i64 d, .int .i64 s, .int .i64 i] 32)).alloc (.cells #[.int .i64 b', .int .i64 d', .int .i64 s', .int .i64 i'] 32)) = w2 at *
  go_region_held3 (fun w' => w'.cell? ⟨w.heap.size, 0, none⟩ = some (.int .i64 b) ∧ w'.cell? ⟨w.heap.size, 1, none⟩ = some (.int .i64 d) ∧ w'.cell? ⟨w.heap.size, 2, none⟩ = some (.int .i64 s) ∧ w'.cell? ⟨w.heap.size, 3, none⟩ = some (.int .i64 i) ∧ w'.cell? ⟨w.heap.size + 1, 0, none⟩ = some (.int .i64 b') ∧ w'.cell? ⟨w.heap.size + 1, 1, none⟩ = some (.int .i64 d') ∧ w'.cell? ⟨w.heap.size + 1, 2, none⟩ = some (.int .i64 s') ∧ w'.cell? ⟨w.heap.size + 1, 3, none⟩ = some (.int .i64 i')) (first | exact ⟨F2.out.A.c0, F2.out.A.c1, F2.out.A.c2, F2.out.A.c3, F2.out.B.c0, F2.out.B.c1, F2.out.B.c2, F2.out.B.c3⟩ | exact ⟨F3.out.A.c0, F3.out.A.c1, F3.out.A.c2, F3.out.A.c3, F3.out.B.c0, F3.out.B.c1, F3.out.B.c2, F3.out.B.c3⟩)
    (first
      | (go_at_call 41; (with_reducible refine (C1 _).mono ?_); rintro e wn ⟨rfl, m⟩; have F2 := Lib.hid (F2.out.next m); have F3 := Lib.hid (F2.out.next (More.alloc (More.refl _) (.cells #[.int .i64 x1, .int .i64 x2] 3))); clear m)
      | (go_at_call 42; (with_reducible refine (C2 _).mono ?_); rintro e wn ⟨rfl, rfl⟩)
      | (go_at_call 40; (with_reducible refine (O _ _ (by simp [go_sem]) (by simp [go_sem])).mono ?_); rintro e wn ⟨rfl, rfl⟩))
  all_goals
    go_wp2
    go_ret
    exact ⟨rfl, F3.out.M⟩

theorem less_any (x y : En) (w : World) :
    Calls Try.prog 24 #[entV x, entV y] w fun e w' => e = .returned (.bool (eltB x y)) ∧ More w w' := by
  have E := entries_any x y
  unfold eltB
  rcases ecm_range x y with h | h | h <;> rw [h] at E ⊢ <;> clear h
  all_goals
    unfold entV at *
    go_enter Try.func24, Try.ntmps24
    go_wp2_with fail
    with_reducible refine (E _).mono ?_
    rintro e wn ⟨rfl, m⟩
    go_wp2
    go_ret
    exact ⟨rfl, (((More.refl w).alloc _).alloc _).trans m⟩
end Go.Proofs.Ytiighhcilgjebaa
