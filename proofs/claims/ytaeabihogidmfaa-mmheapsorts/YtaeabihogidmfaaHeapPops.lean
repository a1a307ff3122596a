/-
  What PopMin and PopMax do (layer 5).
-/
import Derived.Test.YtaeabihogidmfaaHeapTurns
namespace Go.Proofs.Ytaeabihogidmfaa
set_option maxRecDepth 100000
open Go.RowKit Go.Sort

theorem Off.trans {w w' w'' : World} {hb : Nat} {v : Value} (h : Off w hb v w') (k : Off w' hb v w'') : Off w hb v w'' :=
  ⟨k.os.trans h.os, k.tape.trans h.tape, k.output.trans h.output, Nat.le_trans h.size k.size, fun j hj h1 h2 => (k.block j (Nat.lt_of_lt_of_le hj h.size) h1 h2).trans (h.block j hj h1 h2)⟩
/-- What is left when x was popped. -/
def Popped (B hb : Nat) (v : Value) (l : List En) (x : En) (w w' : World) : Prop :=
  ∃ v' l', HeapAt w' B hb v' l' ∧ Off w hb v w' ∧ Right l' ∧ (x :: l').Perm l ∧ ∀ q, v'.ownBlock = some q → v.ownBlock = some q
theorem Popped.result {B hb : Nat} {v : Value} {l : List En} {x : En} {w w1 w2 : World} (h : Popped B hb v l x w1 w2) (hb1 : Below w.heap.size w w1) (_hlt : w.heap.size < w1.heap.size) (hh : hb < w.heap.size) (hv : ∀ q, v.ownBlock = some q → q < w.heap.size) (v0 v1 v2 v3 : Value) :
    Popped B hb v l x w ((((w2.setCell ⟨w.heap.size, 0, none⟩ v0).setCell ⟨w.heap.size, 1, none⟩ v1).setCell ⟨w.heap.size, 2, none⟩ v2).setCell ⟨w.heap.size, 3, none⟩ v3) := by
  obtain ⟨v', l', ha, ho, hr, hp, hq⟩ := h
  have o4 := only4 (b := w.heap.size) (v0 := v0) (v1 := v1) (v2 := v2) (v3 := v3) (w := w2)
  refine ⟨v', l', ⟨(o4.block _ (by omega)).trans ha.blk, ha.ge, ?_, ha.ne⟩, ((Off.start hb1).trans ho).set4 (.inr (.inr (Nat.le_refl _))) _ _ _ _, hr, hp, hq⟩
  refine ha.row.kept (row := some w.heap.size) ⟨o4.os, o4.tape, o4.output, by rw [o4.size]; exact Nat.le_refl _, fun k _ hk => o4.block k (by simpa using hk)⟩ (.inr ?_)
  intro e
  have := hv _ (hq _ e)
  omega
theorem take_min (l : List En) (hl : l.length ≤ 1000) (h0 : 0 < l.length) (B hb : Nat) (v : Value) (w : World) (h : HeapAt w B hb v l) (hr : Right l) :
    Calls Try.prog 27 #[.pointer (some ⟨hb, 0, none⟩), .int .i64 0] w fun e w' => e = .returned (entV (nth l 0)) ∧ Popped B hb v l (nth l 0) w w' := by
  obtain ⟨g, c, rfl, _, _⟩ := h.form h0
  refine (take_any l hl B hb g c 0 0 w h0 h (fun h1 => snk_first hr (by omega))).mono ?_
  rintro e w' ⟨l', he, ha, ho, hs, hz⟩
  refine ⟨he, _, l', ha, ho, ?_, ?_, fun q hq => hq⟩
  · by_cases h1 : 0 < l.length - 1
    · exact fun j => (hs h1).2 j (by omega)
    · rw [hz (by omega)]; exact right_short hr (by omega) h0
  · refine List.Perm.trans (List.Perm.cons _ ?_) (tak_perm h0)
    by_cases h1 : 0 < l.length - 1
    · exact (hs h1).1.perm
    · rw [hz (by omega)]
theorem take_max (l : List En) (hl : l.length ≤ 1000) (h0 : 0 < l.length) (B hb : Nat) (v : Value) (w : World) (h : HeapAt w B hb v l) (hr : Right l) :
    Calls Try.prog 27 #[.pointer (some ⟨hb, 0, none⟩), .int .i64 (lastP l : Int)] w fun e w' => e = .returned (entV (nth l (lastP l))) ∧ Popped B hb v l (nth l (lastP l)) w w' := by
  obtain ⟨g, c, rfl, _, _⟩ := h.form h0
  have hlp := lastP_lt h0
  have hcase : lastP l < l.length - 1 → lastP l = 1 ∨ lastP l = 2 := by
    intro h1
    have : ¬ l.length < 3 := by intro h3; unfold lastP at h1; rw [if_pos h3] at h1; omega
    unfold lastP
    rw [if_neg this]
    split <;> omega
  refine (take_any l hl B hb g c 1 (lastP l) w hlp.1 h (fun h1 => snk_last hr (hcase h1) h1)).mono ?_
  rintro e w' ⟨l', he, ha, ho, hs, hz⟩
  refine ⟨he, _, l', ha, ho, ?_, ?_, fun q hq => hq⟩
  · by_cases h1 : lastP l < l.length - 1
    · exact right_last hr (hcase h1) h1 (hs h1).1 (hs h1).2
    · rw [hz (by omega)]; exact right_short hr (by omega) h0
  · refine List.Perm.trans (List.Perm.cons _ ?_) (tak_perm hlp.1)
    by_cases h1 : lastP l < l.length - 1
    · exact (hs h1).1.perm
    · rw [hz (by omega)]

theorem popMin_none (v : Value) (w : World) (L : ∀ w' : World, Below w.heap.size w w' → Calls Try.prog 18 #[v] w' fun e w'' => e = .returned (.int .i64 0) ∧ w' = w'') : Calls Try.prog 13 #[v] w (Told zeroE false w) := by
  have L1 := L (w.alloc (.cells #[.int .i64 0, .int .i64 0, .int .i64 0, .int .i64 0] 39)) ((Below.refl _ _).alloc (Nat.le_refl _) _)
  clear L
  go_enter Try.func13, Try.ntmps13
  go_wp2_with fail
  with_reducible refine L1.mono ?_
  rintro e w' ⟨rfl, rfl⟩
  clear L1
  go_wp2
  exact bodyPost_ret (v := .tuple #[entV zeroE, .bool false]) (by simp [results, Try.results13, go_sem, entV, zeroE]) rfl ⟨rfl, (Below.refl _ _).alloc (Nat.le_refl _) _⟩
theorem popMax_none (v : Value) (w : World) (L : ∀ w' : World, Below w.heap.size w w' → Calls Try.prog 18 #[v] w' fun e w'' => e = .returned (.int .i64 0) ∧ w' = w'') : Calls Try.prog 15 #[v] w (Told zeroE false w) := by
  have L1 := L (w.alloc (.cells #[.int .i64 0, .int .i64 0, .int .i64 0, .int .i64 0] 39)) ((Below.refl _ _).alloc (Nat.le_refl _) _)
  clear L
  go_enter Try.func15, Try.ntmps15
  go_wp2_with fail
  with_reducible refine L1.mono ?_
  rintro e w' ⟨rfl, rfl⟩
  clear L1
  go_wp2
  exact bodyPost_ret (v := .tuple #[entV zeroE, .bool false]) (by simp [results, Try.results15, go_sem, entV, zeroE]) rfl ⟨rfl, (Below.refl _ _).alloc (Nat.le_refl _) _⟩
/-- What a pop answers. -/
def IsPopped (B hb : Nat) (v : Value) (l : List En) (x : En) (w : World) (e : Ending) (w' : World) : Prop := e = .returned (.tuple #[entV x, .bool true]) ∧ Popped B hb v l x w w'
theorem Popped.cells {B hb : Nat} {v : Value} {l : List En} {x : En} {w1 w2 : World} {r : Nat} {o : Obj} (h : Popped B hb v l x w1 w2) (hr : w1.heap[r]? = some o) (h1 : r ≠ hb) (h2 : v.ownBlock ≠ some r) : w2.heap[r]? = some o := by
  obtain ⟨_, _, _, ho, _⟩ := h
  exact (ho.block _ (Array.getElem?_eq_some_iff.1 hr).1 h1 h2).trans hr
set_option maxHeartbeats 1000000 in
theorem popMin_any (l : List En) (hl : l.length ≤ 1000) (h0 : 0 < l.length) (B hb : Nat) (v : Value) (w : World) (h : HeapAt w B hb v l) (hr : Right l) : Calls Try.prog 13 #[.pointer (some ⟨hb, 0, none⟩)] w (IsPopped B hb v l (nth l 0) w) := by
  have B1 : Below w.heap.size w (w.alloc (.cells #[.int .i64 0, .int .i64 0, .int .i64 0, .int .i64 0] 39)) := (Below.refl _ _).alloc (Nat.le_refl _) _
  have HN := Lib.hid (heap_alloc_new w (.cells #[.int .i64 0, .int .i64 0, .int .i64 0, .int .i64 0] 39))
  have HZ : Hid (w.heap.size < (w.alloc (.cells #[.int .i64 0, .int .i64 0, .int .i64 0, .int .i64 0] 39)).heap.size) := by show _ < _; simp
  have h1 := h.next B1
  have L1 := len_any _ B hb v l h1
  have TK := take_min l hl h0 B hb v _ h1 hr
  have HB1 := Lib.hid B1
  have hlt := h.lt
  have hvl : ∀ q, v.ownBlock = some q → q < w.heap.size := fun q hq => (h.row.lt q hq).2
  have HV := Lib.hid hvl
  generalize nth l 0 = x at *
  obtain ⟨n, en⟩ : ∃ n, l.length = n := ⟨_, rfl⟩
  rw [en] at L1 hl h0
  have hn : ((n : Int) == 0) = false := by simp; omega
  clear en h h1 B1 hvl hr
  go_enter Try.func13, Try.ntmps13
  go_wp2_with fail
  with_reducible refine L1.mono ?_
  rintro e w' ⟨rfl, rfl⟩
  clear L1
  generalize (w.alloc (.cells #[.int .i64 0, .int .i64 0, .int .i64 0, .int .i64 0] 39)) = w1 at *
  go_wp2_with fail
  with_reducible refine TK.mono ?_
  rintro e w2 ⟨rfl, hP⟩
  obtain ⟨r0, r1, r2, r3, f0, f1, f2, f3, rz⟩ := cells4 (hP.cells HN.out (by omega) (fun e => by have := HV.out _ e; omega))
  have E : Hid (∀ v0 v1 v2 v3, Popped B hb v l x w ((((w2.setCell ⟨w.heap.size, 0, none⟩ v0).setCell ⟨w.heap.size, 1, none⟩ v1).setCell ⟨w.heap.size, 2, none⟩ v2).setCell ⟨w.heap.size, 3, none⟩ v3)) := hP.result HB1.out HZ.out hlt HV.out
  clear hP TK
  unfold entV at *
  go_wp2
  exact bodyPost_ret (v := .tuple #[entV x, .bool true]) (by simp [results, Try.results13, go_sem, entV, r0, r1, r2, r3]) rfl ⟨rfl, E.out _ _ _ _⟩
set_option maxHeartbeats 1000000 in
theorem popMax_any (l : List En) (hl : l.length ≤ 1000) (h0 : 0 < l.length) (B hb : Nat) (v : Value) (w : World) (h : HeapAt w B hb v l) (hr : Right l) : Calls Try.prog 15 #[.pointer (some ⟨hb, 0, none⟩)] w (IsPopped B hb v l (nth l (lastP l)) w) := by
  have B1 : Below w.heap.size w (w.alloc (.cells #[.int .i64 0, .int .i64 0, .int .i64 0, .int .i64 0] 39)) := (Below.refl _ _).alloc (Nat.le_refl _) _
  have HN := Lib.hid (heap_alloc_new w (.cells #[.int .i64 0, .int .i64 0, .int .i64 0, .int .i64 0] 39))
  have HZ : Hid (w.heap.size < (w.alloc (.cells #[.int .i64 0, .int .i64 0, .int .i64 0, .int .i64 0] 39)).heap.size) := by show _ < _; simp
  have h1 := h.next B1
  have L1 := len_any _ B hb v l h1
  have TK := fun W (m : More (w.alloc (.cells #[.int .i64 0, .int .i64 0, .int .i64 0, .int .i64 0] 39)) W) => take_max l hl h0 B hb v W (h1.next m.below) hr
  have HTK := Lib.hid TK
  obtain ⟨g, c, rfl, hL, hg⟩ := h1.form h0
  have LA := last_any l h0 hl g c _ hL
  have c1 := h1.cell
  have HB1 := Lib.hid B1
  have hlt := h.lt
  have hvl : ∀ q, (Value.slice (some ⟨g, 0, none⟩) l.length c).ownBlock = some q → q < w.heap.size := fun q hq => (h.row.lt q hq).2
  have HV := Lib.hid hvl
  clear TK
  generalize nth l (lastP l) = x at *
  generalize lastP l = mm at *
  obtain ⟨n, en⟩ : ∃ n, l.length = n := ⟨_, rfl⟩
  rw [en] at L1 hl h0 LA c1 HTK HV ⊢
  have hn : ((n : Int) == 0) = false := by simp; omega
  clear en h h1 B1 hvl hr hL
  go_enter Try.func15, Try.ntmps15
  go_wp2_with fail
  with_reducible refine L1.mono ?_
  rintro e w' ⟨rfl, rfl⟩
  clear L1
  generalize (w.alloc (.cells #[.int .i64 0, .int .i64 0, .int .i64 0, .int .i64 0] 39)) = w1 at *
  go_wp2_with fail
  with_reducible refine LA.mono ?_
  rintro e w1' ⟨rfl, m1⟩
  have TK := HTK.out w1' m1
  have HM1 := Lib.hid m1.below
  clear m1 LA HTK
  go_wp2_with fail
  with_reducible refine TK.mono ?_
  rintro e w2 ⟨rfl, hP⟩
  have hs1 := HM1.out.size
  have hz := HZ.out
  obtain ⟨r0, r1, r2, r3, f0, f1, f2, f3, rz⟩ := cells4 (hP.cells ((HM1.out.block _ HZ.out).trans HN.out) (by omega) (fun e => by have := HV.out _ e; omega))
  have E : Hid (∀ v0 v1 v2 v3, Popped B hb (.slice (some ⟨g, 0, none⟩) n c) l x w ((((w2.setCell ⟨w.heap.size, 0, none⟩ v0).setCell ⟨w.heap.size, 1, none⟩ v1).setCell ⟨w.heap.size, 2, none⟩ v2).setCell ⟨w.heap.size, 3, none⟩ v3)) := hP.result (HB1.out.trans (HM1.out.mono (by omega))) (by omega) hlt HV.out
  clear hP TK c1
  unfold entV at *
  go_wp2
  exact bodyPost_ret (v := .tuple #[entV x, .bool true]) (by simp [results, Try.results15, go_sem, entV, r0, r1, r2, r3]) rfl ⟨rfl, E.out _ _ _ _⟩
end Go.Proofs.Ytaeabihogidmfaa
