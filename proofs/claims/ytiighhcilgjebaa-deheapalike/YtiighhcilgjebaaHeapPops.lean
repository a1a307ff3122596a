/-
  What PopMin and PopMax do (layer 5).
-/
import Derived.Test.YtiighhcilgjebaaHeapTurns
namespace Go.Proofs.Ytiighhcilgjebaa
set_option maxRecDepth 100000
open Go.RowKit Go.Sort

abbrev Popped := PoppedT 97 Right
abbrev IsPopped := IsPoppedT 97 Right

theorem take_min (l : List En) (hl : l.length ≤ 1000) (h0 : 0 < l.length) (B hb : Nat) (v : Value) (w : World) (h : HeapAt w B hb v l) (hr : Right l) :
    Calls Try.prog 120 #[.pointer (some ⟨hb, 0, none⟩), .int .i64 0] w fun e w' => e = .returned (entV (nth l 0)) ∧ Popped B hb v l (nth l 0) w w' := by
  obtain ⟨g, c, rfl, _, _⟩ := h.form h0
  refine (take_any l hl B hb g c 0 0 w h0 h (fun h1 => snk_first hr (by omega))).mono ?_
  rintro e w' ⟨l', he, ha, ho, hs, hz⟩
  refine ⟨he, _, l', ha, ho, ?_, ?_, fun q hq => hq⟩
  · by_cases h1 : 0 < l.length - 1
    · exact fun j => (hs h1).2 j (by omega)
    · rw [hz (by omega)]; exact right_short hr (by omega) h0
  · refine List.Perm.trans (List.Perm.cons _ ?_) (tak_perm h0)
    by_cases h1 : 0 < l.length - 1
    · exact (hs h1).1.perm
    · rw [hz (by omega)]
theorem take_max (l : List En) (hl : l.length ≤ 1000) (h0 : 0 < l.length) (B hb : Nat) (v : Value) (w : World) (h : HeapAt w B hb v l) (hr : Right l) :
    Calls Try.prog 120 #[.pointer (some ⟨hb, 0, none⟩), .int .i64 (lastP l : Int)] w fun e w' => e = .returned (entV (nth l (lastP l))) ∧ Popped B hb v l (nth l (lastP l)) w w' := by
  obtain ⟨g, c, rfl, _, _⟩ := h.form h0
  have hlp := lastP_lt h0
  have hcase : lastP l < l.length - 1 → lastP l = 1 ∨ lastP l = 2 := by
    intro h1
    have : ¬ l.length < 3 := by intro h3; unfold lastP at h1; rw [if_pos h3] at h1; omega
    unfold lastP
    rw [if_neg this]
    split <;> omega
  refine (take_any l hl B hb g c 1 (lastP l) w hlp.1 h (fun h1 => snk_last hr (hcase h1) h1)).mono ?_
  rintro e w' ⟨l', he, ha, ho, hs, hz⟩
  refine ⟨he, _, l', ha, ho, ?_, ?_, fun q hq => hq⟩
  · by_cases h1 : lastP l < l.length - 1
    · exact right_last hr (hcase h1) h1 (hs h1).1 (hs h1).2
    · rw [hz (by omega)]; exact right_short hr (by omega) h0
  · refine List.Perm.trans (List.Perm.cons _ ?_) (tak_perm hlp.1)
    by_cases h1 : lastP l < l.length - 1
    · exact (hs h1).1.perm
    · rw [hz (by omega)]

theorem popMin_none (v : Value) (w : World) (L : ∀ w' : World, Below w.heap.size w w' → Calls Try.prog 112 #[v] w' fun e w'' => e = .returned (.int .i64 0) ∧ w' = w'') : Calls Try.prog 117 #[v] w (Told zeroE false w) := by
  have L1 := L (w.alloc (.cells #[.int .i64 0, .int .i64 0, .int .i64 0, .int .i64 0] 32)) ((Below.refl _ _).alloc (Nat.le_refl _) _)
  clear L
  go_enter Try.func117, Try.ntmps117
  go_wp2_with fail
  with_reducible refine L1.mono ?_
  rintro e w' ⟨rfl, rfl⟩
  clear L1
  go_wp2
  exact bodyPost_ret (v := .tuple #[entV zeroE, .bool false]) (by simp [results, Try.results117, go_sem, entV, zeroE]) rfl ⟨rfl, (Below.refl _ _).alloc (Nat.le_refl _) _⟩
theorem popMax_none (v : Value) (w : World) (L : ∀ w' : World, Below w.heap.size w w' → Calls Try.prog 112 #[v] w' fun e w'' => e = .returned (.int .i64 0) ∧ w' = w'') : Calls Try.prog 116 #[v] w (Told zeroE false w) := by
  have L1 := L (w.alloc (.cells #[.int .i64 0, .int .i64 0, .int .i64 0, .int .i64 0] 32)) ((Below.refl _ _).alloc (Nat.le_refl _) _)
  clear L
  go_enter Try.func116, Try.ntmps116
  go_wp2_with fail
  with_reducible refine L1.mono ?_
  rintro e w' ⟨rfl, rfl⟩
  clear L1
  go_wp2
  exact bodyPost_ret (v := .tuple #[entV zeroE, .bool false]) (by simp [results, Try.results116, go_sem, entV, zeroE]) rfl ⟨rfl, (Below.refl _ _).alloc (Nat.le_refl _) _⟩
set_option maxHeartbeats 1000000 in
theorem popMin_any (l : List En) (hl : l.length ≤ 1000) (h0 : 0 < l.length) (B hb : Nat) (v : Value) (w : World) (h : HeapAt w B hb v l) (hr : Right l) : Calls Try.prog 117 #[.pointer (some ⟨hb, 0, none⟩)] w (IsPopped B hb v l (nth l 0) w) := by
  have B1 : Below w.heap.size w (w.alloc (.cells #[.int .i64 0, .int .i64 0, .int .i64 0, .int .i64 0] 32)) := (Below.refl _ _).alloc (Nat.le_refl _) _
  have HN := Lib.hid (heap_alloc_new w (.cells #[.int .i64 0, .int .i64 0, .int .i64 0, .int .i64 0] 32))
  have HZ : Hid (w.heap.size < (w.alloc (.cells #[.int .i64 0, .int .i64 0, .int .i64 0, .int .i64 0] 32)).heap.size) := by show _ < _; simp
  have h1 := h.next B1
  have L1 := len_any _ B hb v l h1
  have TK := take_min l hl h0 B hb v _ h1 hr
  have HB1 := Lib.hid B1
  have hlt := h.lt
  have hvl : ∀ q, v.ownBlock = some q → q < w.heap.size := fun q hq => (h.row.lt q hq).2
  have HV := Lib.hid hvl
  generalize nth l 0 = x at *
  obtain ⟨n, en⟩ : ∃ n, l.length = n := ⟨_, rfl⟩
  rw [en] at L1 hl h0
  have hn : ((n : Int) == 0) = false := by simp; omega
  clear en h h1 B1 hvl hr
  go_enter Try.func117, Try.ntmps117
  go_wp2_with fail
  with_reducible refine L1.mono ?_
  rintro e w' ⟨rfl, rfl⟩
  clear L1
  generalize (w.alloc (.cells #[.int .i64 0, .int .i64 0, .int .i64 0, .int .i64 0] 32)) = w1 at *
  go_wp2_with fail
  with_reducible refine TK.mono ?_
  rintro e w2 ⟨rfl, hP⟩
  obtain ⟨r0, r1, r2, r3, f0, f1, f2, f3, rz⟩ := cells4 (hP.cells HN.out (by omega) (fun e => by have := HV.out _ e; omega))
  have E : Hid (∀ v0 v1 v2 v3, Popped B hb v l x w ((((w2.setCell ⟨w.heap.size, 0, none⟩ v0).setCell ⟨w.heap.size, 1, none⟩ v1).setCell ⟨w.heap.size, 2, none⟩ v2).setCell ⟨w.heap.size, 3, none⟩ v3)) := hP.result HB1.out HZ.out hlt HV.out
  clear hP TK
  unfold entV at *
  go_wp2
  exact bodyPost_ret (v := .tuple #[entV x, .bool true]) (by simp [results, Try.results117, go_sem, entV, r0, r1, r2, r3]) rfl ⟨rfl, E.out _ _ _ _⟩
set_option maxHeartbeats 1000000 in
theorem popMax_any (l : List En) (hl : l.length ≤ 1000) (h0 : 0 < l.length) (B hb : Nat) (v : Value) (w : World) (h : HeapAt w B hb v l) (hr : Right l) : Calls Try.prog 116 #[.pointer (some ⟨hb, 0, none⟩)] w (IsPopped B hb v l (nth l (lastP l)) w) := by
  have B1 : Below w.heap.size w (w.alloc (.cells #[.int .i64 0, .int .i64 0, .int .i64 0, .int .i64 0] 32)) := (Below.refl _ _).alloc (Nat.le_refl _) _
  have HN := Lib.hid (heap_alloc_new w (.cells #[.int .i64 0, .int .i64 0, .int .i64 0, .int .i64 0] 32))
  have HZ : Hid (w.heap.size < (w.alloc (.cells #[.int .i64 0, .int .i64 0, .int .i64 0, .int .i64 0] 32)).heap.size) := by show _ < _; simp
  have h1 := h.next B1
  have L1 := len_any _ B hb v l h1
  have TK := fun W (m : More (w.alloc (.cells #[.int .i64 0, .int .i64 0, .int .i64 0, .int .i64 0] 32)) W) => take_max l hl h0 B hb v W (h1.next m.below) hr
  have HTK := Lib.hid TK
  obtain ⟨g, c, rfl, hL, hg⟩ := h1.form h0
  have LA := last_any l h0 hl g c _ hL
  have c1 := h1.cell
  have HB1 := Lib.hid B1
  have hlt := h.lt
  have hvl : ∀ q, (Value.slice (some ⟨g, 0, none⟩) l.length c).ownBlock = some q → q < w.heap.size := fun q hq => (h.row.lt q hq).2
  have HV := Lib.hid hvl
  clear TK
  generalize nth l (lastP l) = x at *
  generalize lastP l = mm at *
  obtain ⟨n, en⟩ : ∃ n, l.length = n := ⟨_, rfl⟩
  rw [en] at L1 hl h0 LA c1 HTK HV ⊢
  have hn : ((n : Int) == 0) = false := by simp; omega
  clear en h h1 B1 hvl hr hL
  go_enter Try.func116, Try.ntmps116
  go_wp2_with fail
  with_reducible refine L1.mono ?_
  rintro e w' ⟨rfl, rfl⟩
  clear L1
  generalize (w.alloc (.cells #[.int .i64 0, .int .i64 0, .int .i64 0, .int .i64 0] 32)) = w1 at *
  go_wp2_with fail
  with_reducible refine LA.mono ?_
  rintro e w1' ⟨rfl, m1⟩
  have TK := HTK.out w1' m1
  have HM1 := Lib.hid m1.below
  clear m1 LA HTK
  go_wp2_with fail
  with_reducible refine TK.mono ?_
  rintro e w2 ⟨rfl, hP⟩
  have hs1 := HM1.out.size
  have hz := HZ.out
  obtain ⟨r0, r1, r2, r3, f0, f1, f2, f3, rz⟩ := cells4 (hP.cells ((HM1.out.block _ HZ.out).trans HN.out) (by omega) (fun e => by have := HV.out _ e; omega))
  have E : Hid (∀ v0 v1 v2 v3, Popped B hb (.slice (some ⟨g, 0, none⟩) n c) l x w ((((w2.setCell ⟨w.heap.size, 0, none⟩ v0).setCell ⟨w.heap.size, 1, none⟩ v1).setCell ⟨w.heap.size, 2, none⟩ v2).setCell ⟨w.heap.size, 3, none⟩ v3)) := hP.result (HB1.out.trans (HM1.out.mono (by omega))) (by omega) hlt HV.out
  clear hP TK c1
  unfold entV at *
  go_wp2
  exact bodyPost_ret (v := .tuple #[entV x, .bool true]) (by simp [results, Try.results116, go_sem, entV, r0, r1, r2, r3]) rfl ⟨rfl, E.out _ _ _ _⟩
end Go.Proofs.Ytiighhcilgjebaa
