/-
  What ask answers by a method expression, and what Min, Max, PopMin and PopMax of a heap of either kind do (layer 7). Written by tools/genask.py.
-/
import Derived.Test.YtiighhcilgjebaaDeCalls
namespace Go.Proofs.Ytiighhcilgjebaa
set_option maxRecDepth 100000
open Go.RowKit Go.Sort

/-- Of a list in order: the first (up: the last) one, and the others. -/
def hdE : Bool → List En → En
  | false, m => m.headD zeroE
  | true, m => m.getLastD zeroE
def tlE : Bool → List En → List En
  | false, m => m.tail
  | true, m => m.dropLast
theorem hdE_cons (x : En) (m : List En) : hdE false (x :: m) = x := rfl
theorem hdE_snoc (x : En) (m : List En) : hdE true (m ++ [x]) = x := by simp [hdE, List.getLastD_eq_getLast?]
theorem tlE_cons (x : En) (m : List En) : tlE false (x :: m) = m := rfl
theorem tlE_snoc (x : En) (m : List En) : tlE true (m ++ [x]) = m := by simp [tlE]
/-- What a heap within leaves that lost x. -/
structure Lost (up : Bool) (db : Nat) (k : Bool) (hb : Nat) (v : Value) (l : List En) (most : Int) (w w' : World) : Prop where
  mk ::
  at_ : ∃ v' l', DeAt w' db k hb v' l' most ∧ srt l' = tlE up (srt l) ∧ ∀ q, v'.ownBlock = some q → v.ownBlock = some q
  off : Off w hb v w'
theorem DeAt.lost {w w' : World} {up k : Bool} {db hb : Nat} {v : Value} {l : List En} {most : Int} {x : En} (h : DeAt w db k hb v l most) (hp : PoppedT (hT k) (hR k) 0 hb v l x w w') (hs : ∀ l', hR k l' → (x :: l').Perm l → srt l' = tlE up (srt l)) : Lost up db k hb v l most w w' := by
  obtain ⟨v', l', ha, ho, hr, hm, hq⟩ := hp
  refine ⟨⟨v', l', ⟨(ho.block _ h.lt h.ne.1 h.ne.2).trans h.blk, ⟨h.ne.1, fun e => h.ne.2 (hq _ e)⟩, ha, hr⟩, hs l' hr hm, hq⟩, ho⟩
/-- What is asked of a heap with entries, and may be told, or taken. -/
def TellIn (up : Bool) (fn hb : Nat) (l : List En) (w : World) : Prop :=
  ∀ W, Below w.heap.size w W → Calls Try.prog fn #[.pointer (some ⟨hb, 0, none⟩)] W fun e w' => e = .returned (.tuple #[entV (hdE up (srt l)), .bool true]) ∧ Below W.heap.size W w'
def TakeIn (up k : Bool) (fn db hb : Nat) (v : Value) (l : List En) (most : Int) (w : World) : Prop :=
  ∀ W, Below w.heap.size w W → Calls Try.prog fn #[.pointer (some ⟨hb, 0, none⟩)] W fun e w' => e = .returned (.tuple #[entV (hdE up (srt l)), .bool true]) ∧ Lost up db k hb v l most W w' 
theorem inMMin {w : World} {db hb : Nat} {v : Value} {l : List En} {most : Int} (h0 : 0 < l.length) (hl : l.length ≤ 1000) (h : DeAt w db false hb v l most) : TellIn false 115 hb l w := by
  intro W hW
  refine (min_any W 0 hb v l h0 hl (h.at_.next hW)).mono ?_
  rintro e w' ⟨rfl, b⟩
  have hr : Right l := h.rt
  rw [hr.min (tak_perm h0), hdE_cons]
  exact ⟨rfl, b⟩
theorem inIMin {w : World} {db hb : Nat} {v : Value} {l : List En} {most : Int} (h0 : 0 < l.length) (hl : l.length ≤ 1000) (h : DeAt w db true hb v l most) : TellIn false 103 hb l w := by
  intro W hW
  refine (I.min_any W 0 hb v l h0 hl (h.at_.next hW)).mono ?_
  rintro e w' ⟨rfl, b⟩
  have hr : I.Right l := h.rt
  rw [hr.min (tak_perm h0), hdE_cons]
  exact ⟨rfl, b⟩
theorem inMMax {w : World} {db hb : Nat} {v : Value} {l : List En} {most : Int} (h0 : 0 < l.length) (hl : l.length ≤ 1000) (h : DeAt w db false hb v l most) : TellIn true 114 hb l w := by
  intro W hW
  refine (max_any W 0 hb v l h0 hl (h.at_.next hW)).mono ?_
  rintro e w' ⟨rfl, b⟩
  have hr : Right l := h.rt
  rw [hr.max (tak_perm (lastP_lt h0).1), hdE_snoc]
  exact ⟨rfl, b⟩
theorem inIMax {w : World} {db hb : Nat} {v : Value} {l : List En} {most : Int} (h0 : 0 < l.length) (hl : l.length ≤ 1000) (h : DeAt w db true hb v l most) : TellIn true 102 hb l w := by
  intro W hW
  refine (I.max_any W 0 hb v l h0 hl (h.at_.next hW)).mono ?_
  rintro e w' ⟨rfl, b⟩
  have hr : I.Right l := h.rt
  rw [hr.max (tak_perm (I.lastP_lt h0).1), hdE_snoc]
  exact ⟨rfl, b⟩
theorem inMPopMin {w : World} {db hb : Nat} {v : Value} {l : List En} {most : Int} (h0 : 0 < l.length) (hl : l.length ≤ 1000) (h : DeAt w db false hb v l most) : TakeIn false false 117 db hb v l most w := by
  intro W hW
  have hr : Right l := h.rt
  refine (popMin_any l hl h0 0 hb v W (h.at_.next hW) hr).mono ?_
  rintro e w' ⟨rfl, hP⟩
  refine ⟨?_, (h.next hW).lost hP fun l' _ hm => by rw [hr.min hm, tlE_cons]⟩
  rw [hr.min (tak_perm h0), hdE_cons]
theorem inIPopMin {w : World} {db hb : Nat} {v : Value} {l : List En} {most : Int} (h0 : 0 < l.length) (hl : l.length ≤ 1000) (h : DeAt w db true hb v l most) : TakeIn false true 105 db hb v l most w := by
  intro W hW
  have hr : I.Right l := h.rt
  refine (I.popMin_any l hl h0 0 hb v W (h.at_.next hW) hr).mono ?_
  rintro e w' ⟨rfl, hP⟩
  refine ⟨?_, (h.next hW).lost hP fun l' _ hm => by rw [hr.min hm, tlE_cons]⟩
  rw [hr.min (tak_perm h0), hdE_cons]
theorem inMPopMax {w : World} {db hb : Nat} {v : Value} {l : List En} {most : Int} (h0 : 0 < l.length) (hl : l.length ≤ 1000) (h : DeAt w db false hb v l most) : TakeIn true false 116 db hb v l most w := by
  intro W hW
  have hr : Right l := h.rt
  refine (popMax_any l hl h0 0 hb v W (h.at_.next hW) hr).mono ?_
  rintro e w' ⟨rfl, hP⟩
  refine ⟨?_, (h.next hW).lost hP fun l' _ hm => by rw [hr.max hm, tlE_snoc]⟩
  rw [hr.max (tak_perm (lastP_lt h0).1), hdE_snoc]
theorem inIPopMax {w : World} {db hb : Nat} {v : Value} {l : List En} {most : Int} (h0 : 0 < l.length) (hl : l.length ≤ 1000) (h : DeAt w db true hb v l most) : TakeIn true true 104 db hb v l most w := by
  intro W hW
  have hr : I.Right l := h.rt
  refine (I.popMax_any l hl h0 0 hb v W (h.at_.next hW) hr).mono ?_
  rintro e w' ⟨rfl, hP⟩
  refine ⟨?_, (h.next hW).lost hP fun l' _ hm => by rw [hr.max hm, tlE_snoc]⟩
  rw [hr.max (tak_perm (I.lastP_lt h0).1), hdE_snoc]
theorem Lost.result {up k : Bool} {db hb : Nat} {v : Value} {l : List En} {most : Int} {w w1 w2 : World} (h : Lost up db k hb v l most w1 w2) (hb1 : Below w.heap.size w w1) (hd : DeAt w db k hb v l most) (v0 v1 v2 v3 : Value) :
    Lost up db k hb v l most w ((((w2.setCell ⟨w.heap.size, 0, none⟩ v0).setCell ⟨w.heap.size, 1, none⟩ v1).setCell ⟨w.heap.size, 2, none⟩ v2).setCell ⟨w.heap.size, 3, none⟩ v3) := by
  obtain ⟨⟨v', l', h1, h2, h3⟩, ho⟩ := h
  have e1 := hd.lt
  have e2 := hd.at_.lt
  refine ⟨⟨v', l', h1.kept (F := fun b => b = w.heap.size) ((Kept.refl (fun b => b = w.heap.size) w2).set40 (Or.inl (show w.heap.size = w.heap.size from rfl)) _ _ _ _) (by omega) (by omega) (fun q hq e => ?_), h2, h3⟩, ((Off.start hb1).trans ho).set4 (.inr (.inr (Nat.le_refl _))) _ _ _ _⟩
  have := (hd.at_.row.lt _ (h3 q hq)).2
  omega
theorem Lost.cells {up k : Bool} {db hb : Nat} {v : Value} {l : List En} {most : Int} {w w1 w2 : World} {c : Array Value} {T : TypeId} (h : Lost up db k hb v l most w1 w2) (hd : DeAt w db k hb v l most) (hr : w1.heap[w.heap.size]? = some (.cells c T (0, 0))) : w2.heap[w.heap.size]? = some (.cells c T (0, 0)) := by
  have e2 := hd.at_.lt
  refine (h.off.block _ (Array.getElem?_eq_some_iff.1 hr).1 (by omega) (fun e => ?_)).trans hr
  have := (hd.at_.row.lt _ e).2
  omega
/-- What ask leaves. -/
def AskT (up : Bool) (m : List En) (w : World) (e : Ending) (w' : World) : Prop := e = .returned (.tuple #[entV (hdE up m), .bool (decide (0 < m.length))]) ∧ Below w.heap.size w w'
def AskP (up : Bool) (F : Nat → Prop) (db : Nat) (k : Bool) (m : List En) (most : Int) (w : World) (e : Ending) (w' : World) : Prop := e = .returned (.tuple #[entV (hdE up m), .bool (decide (0 < m.length))]) ∧ De w' F db k (tlE up m) most ∧ Kept F w w'
theorem ask_none (v u : Value) (w : World) (L : ∀ w' : World, Below w.heap.size w w' → Calls Try.prog 13 #[v] w' fun e w'' => e = .returned (.int .i64 0) ∧ w' = w'') : Calls Try.prog 33 #[v, u] w (Told zeroE false w) := by
  have L1 := L (w.alloc (.cells #[.int .i64 0, .int .i64 0, .int .i64 0, .int .i64 0] 32)) ((Below.refl _ _).alloc (Nat.le_refl _) _)
  have HB : Hid (Below w.heap.size w (w.alloc (.cells #[.int .i64 0, .int .i64 0, .int .i64 0, .int .i64 0] 32))) := (Below.refl _ _).alloc (Nat.le_refl _) _
  clear L
  go_enter Try.func33, Try.ntmps33
  go_wp2_with fail
  with_reducible refine L1.mono ?_
  rintro e w' ⟨rfl, rfl⟩
  clear L1
  go_wp2
  exact bodyPost_ret (v := .tuple #[entV zeroE, .bool false]) (by simp [results, Try.results33, go_sem, entV, zeroE]) rfl ⟨rfl, HB.out⟩
set_option maxHeartbeats 1000000 in
theorem askMMin (w : World) (db hb : Nat) (v : Value) (l : List En) (most : Int) (h0 : 0 < l.length) (hl : l.length ≤ 1000) (h : DeAt w db false hb v l most) : Calls Try.prog 33 #[.pointer (some ⟨db, 0, none⟩), .func (.methodOf 63 "Min") #[] #[]] w (fun e w' => e = .returned (.tuple #[entV (hdE false (srt l)), .bool true]) ∧ Below w.heap.size w w') := by
  have B1 : Below w.heap.size w (w.alloc (.cells #[.int .i64 0, .int .i64 0, .int .i64 0, .int .i64 0] 32)) := (Below.refl _ _).alloc (Nat.le_refl _) _
  have L1 := len_anyD _ db false hb v l most (h.next B1)
  have TK := inMMin h0 hl h _ B1
  have HN := Lib.hid (heap_alloc_new w (.cells #[.int .i64 0, .int .i64 0, .int .i64 0, .int .i64 0] 32))
  have HB1 := Lib.hid B1
  have HZ : Hid (w.heap.size < (w.alloc (.cells #[.int .i64 0, .int .i64 0, .int .i64 0, .int .i64 0] 32)).heap.size) := by show _ < _; simp
  have HH := Lib.hid h
  have c0 := (h.next B1).c0
  unfold ifc at c0
  have q := methMMin hb
  generalize hdE false (srt l) = x at *
  obtain ⟨n, en⟩ : ∃ n, l.length = n := ⟨_, rfl⟩
  rw [en] at L1 hl h0
  have hn : ((n : Int) == 0) = false := by simp; omega
  clear h B1 en
  unfold entV at *
  go_enter Try.func33, Try.ntmps33
  go_wp2_with fail
  with_reducible refine L1.mono ?_
  rintro e w' ⟨rfl, rfl⟩
  clear L1
  generalize (w.alloc (.cells #[.int .i64 0, .int .i64 0, .int .i64 0, .int .i64 0] 32)) = w1 at *
  go_wp2_with fail
  with_reducible refine TK.mono ?_
  rintro e w2 ⟨rfl, hP⟩
  obtain ⟨r0, r1, r2, r3, f0, f1, f2, f3, rz⟩ := cells4 ((hP.block _ HZ.out).trans HN.out)
  have E : Hid (∀ v0 v1 v2 v3, Below w.heap.size w ((((w2.setCell ⟨w.heap.size, 0, none⟩ v0).setCell ⟨w.heap.size, 1, none⟩ v1).setCell ⟨w.heap.size, 2, none⟩ v2).setCell ⟨w.heap.size, 3, none⟩ v3)) := fun _ _ _ _ => below_set4 (HB1.out.trans (hP.mono HB1.out.size)) (Nat.le_refl _) _ _ _ _
  clear hP TK
  go_wp2
  exact bodyPost_ret (v := .tuple #[entV x, .bool true]) (by simp [results, Try.results33, go_sem, entV, r0, r1, r2, r3]) rfl ⟨rfl, E.out _ _ _ _⟩
set_option maxHeartbeats 1000000 in
theorem askIMin (w : World) (db hb : Nat) (v : Value) (l : List En) (most : Int) (h0 : 0 < l.length) (hl : l.length ≤ 1000) (h : DeAt w db true hb v l most) : Calls Try.prog 33 #[.pointer (some ⟨db, 0, none⟩), .func (.methodOf 63 "Min") #[] #[]] w (fun e w' => e = .returned (.tuple #[entV (hdE false (srt l)), .bool true]) ∧ Below w.heap.size w w') := by
  have B1 : Below w.heap.size w (w.alloc (.cells #[.int .i64 0, .int .i64 0, .int .i64 0, .int .i64 0] 32)) := (Below.refl _ _).alloc (Nat.le_refl _) _
  have L1 := len_anyD _ db true hb v l most (h.next B1)
  have TK := inIMin h0 hl h _ B1
  have HN := Lib.hid (heap_alloc_new w (.cells #[.int .i64 0, .int .i64 0, .int .i64 0, .int .i64 0] 32))
  have HB1 := Lib.hid B1
  have HZ : Hid (w.heap.size < (w.alloc (.cells #[.int .i64 0, .int .i64 0, .int .i64 0, .int .i64 0] 32)).heap.size) := by show _ < _; simp
  have HH := Lib.hid h
  have c0 := (h.next B1).c0
  unfold ifc at c0
  have q := methIMin hb
  generalize hdE false (srt l) = x at *
  obtain ⟨n, en⟩ : ∃ n, l.length = n := ⟨_, rfl⟩
  rw [en] at L1 hl h0
  have hn : ((n : Int) == 0) = false := by simp; omega
  clear h B1 en
  unfold entV at *
  go_enter Try.func33, Try.ntmps33
  go_wp2_with fail
  with_reducible refine L1.mono ?_
  rintro e w' ⟨rfl, rfl⟩
  clear L1
  generalize (w.alloc (.cells #[.int .i64 0, .int .i64 0, .int .i64 0, .int .i64 0] 32)) = w1 at *
  go_wp2_with fail
  with_reducible refine TK.mono ?_
  rintro e w2 ⟨rfl, hP⟩
  obtain ⟨r0, r1, r2, r3, f0, f1, f2, f3, rz⟩ := cells4 ((hP.block _ HZ.out).trans HN.out)
  have E : Hid (∀ v0 v1 v2 v3, Below w.heap.size w ((((w2.setCell ⟨w.heap.size, 0, none⟩ v0).setCell ⟨w.heap.size, 1, none⟩ v1).setCell ⟨w.heap.size, 2, none⟩ v2).setCell ⟨w.heap.size, 3, none⟩ v3)) := fun _ _ _ _ => below_set4 (HB1.out.trans (hP.mono HB1.out.size)) (Nat.le_refl _) _ _ _ _
  clear hP TK
  go_wp2
  exact bodyPost_ret (v := .tuple #[entV x, .bool true]) (by simp [results, Try.results33, go_sem, entV, r0, r1, r2, r3]) rfl ⟨rfl, E.out _ _ _ _⟩
set_option maxHeartbeats 1000000 in
theorem askMMax (w : World) (db hb : Nat) (v : Value) (l : List En) (most : Int) (h0 : 0 < l.length) (hl : l.length ≤ 1000) (h : DeAt w db false hb v l most) : Calls Try.prog 33 #[.pointer (some ⟨db, 0, none⟩), .func (.methodOf 63 "Max") #[] #[]] w (fun e w' => e = .returned (.tuple #[entV (hdE true (srt l)), .bool true]) ∧ Below w.heap.size w w') := by
  have B1 : Below w.heap.size w (w.alloc (.cells #[.int .i64 0, .int .i64 0, .int .i64 0, .int .i64 0] 32)) := (Below.refl _ _).alloc (Nat.le_refl _) _
  have L1 := len_anyD _ db false hb v l most (h.next B1)
  have TK := inMMax h0 hl h _ B1
  have HN := Lib.hid (heap_alloc_new w (.cells #[.int .i64 0, .int .i64 0, .int .i64 0, .int .i64 0] 32))
  have HB1 := Lib.hid B1
  have HZ : Hid (w.heap.size < (w.alloc (.cells #[.int .i64 0, .int .i64 0, .int .i64 0, .int .i64 0] 32)).heap.size) := by show _ < _; simp
  have HH := Lib.hid h
  have c0 := (h.next B1).c0
  unfold ifc at c0
  have q := methMMax hb
  generalize hdE true (srt l) = x at *
  obtain ⟨n, en⟩ : ∃ n, l.length = n := ⟨_, rfl⟩
  rw [en] at L1 hl h0
  have hn : ((n : Int) == 0) = false := by simp; omega
  clear h B1 en
  unfold entV at *
  go_enter Try.func33, Try.ntmps33
  go_wp2_with fail
  with_reducible refine L1.mono ?_
  rintro e w' ⟨rfl, rfl⟩
  clear L1
  generalize (w.alloc (.cells #[.int .i64 0, .int .i64 0, .int .i64 0, .int .i64 0] 32)) = w1 at *
  go_wp2_with fail
  with_reducible refine TK.mono ?_
  rintro e w2 ⟨rfl, hP⟩
  obtain ⟨r0, r1, r2, r3, f0, f1, f2, f3, rz⟩ := cells4 ((hP.block _ HZ.out).trans HN.out)
  have E : Hid (∀ v0 v1 v2 v3, Below w.heap.size w ((((w2.setCell ⟨w.heap.size, 0, none⟩ v0).setCell ⟨w.heap.size, 1, none⟩ v1).setCell ⟨w.heap.size, 2, none⟩ v2).setCell ⟨w.heap.size, 3, none⟩ v3)) := fun _ _ _ _ => below_set4 (HB1.out.trans (hP.mono HB1.out.size)) (Nat.le_refl _) _ _ _ _
  clear hP TK
  go_wp2
  exact bodyPost_ret (v := .tuple #[entV x, .bool true]) (by simp [results, Try.results33, go_sem, entV, r0, r1, r2, r3]) rfl ⟨rfl, E.out _ _ _ _⟩
set_option maxHeartbeats 1000000 in
theorem askIMax (w : World) (db hb : Nat) (v : Value) (l : List En) (most : Int) (h0 : 0 < l.length) (hl : l.length ≤ 1000) (h : DeAt w db true hb v l most) : Calls Try.prog 33 #[.pointer (some ⟨db, 0, none⟩), .func (.methodOf 63 "Max") #[] #[]] w (fun e w' => e = .returned (.tuple #[entV (hdE true (srt l)), .bool true]) ∧ Below w.heap.size w w') := by
  have B1 : Below w.heap.size w (w.alloc (.cells #[.int .i64 0, .int .i64 0, .int .i64 0, .int .i64 0] 32)) := (Below.refl _ _).alloc (Nat.le_refl _) _
  have L1 := len_anyD _ db true hb v l most (h.next B1)
  have TK := inIMax h0 hl h _ B1
  have HN := Lib.hid (heap_alloc_new w (.cells #[.int .i64 0, .int .i64 0, .int .i64 0, .int .i64 0] 32))
  have HB1 := Lib.hid B1
  have HZ : Hid (w.heap.size < (w.alloc (.cells #[.int .i64 0, .int .i64 0, .int .i64 0, .int .i64 0] 32)).heap.size) := by show _ < _; simp
  have HH := Lib.hid h
  have c0 := (h.next B1).c0
  unfold ifc at c0
  have q := methIMax hb
  generalize hdE true (srt l) = x at *
  obtain ⟨n, en⟩ : ∃ n, l.length = n := ⟨_, rfl⟩
  rw [en] at L1 hl h0
  have hn : ((n : Int) == 0) = false := by simp; omega
  clear h B1 en
  unfold entV at *
  go_enter Try.func33, Try.ntmps33
  go_wp2_with fail
  with_reducible refine L1.mono ?_
  rintro e w' ⟨rfl, rfl⟩
  clear L1
  generalize (w.alloc (.cells #[.int .i64 0, .int .i64 0, .int .i64 0, .int .i64 0] 32)) = w1 at *
  go_wp2_with fail
  with_reducible refine TK.mono ?_
  rintro e w2 ⟨rfl, hP⟩
  obtain ⟨r0, r1, r2, r3, f0, f1, f2, f3, rz⟩ := cells4 ((hP.block _ HZ.out).trans HN.out)
  have E : Hid (∀ v0 v1 v2 v3, Below w.heap.size w ((((w2.setCell ⟨w.heap.size, 0, none⟩ v0).setCell ⟨w.heap.size, 1, none⟩ v1).setCell ⟨w.heap.size, 2, none⟩ v2).setCell ⟨w.heap.size, 3, none⟩ v3)) := fun _ _ _ _ => below_set4 (HB1.out.trans (hP.mono HB1.out.size)) (Nat.le_refl _) _ _ _ _
  clear hP TK
  go_wp2
  exact bodyPost_ret (v := .tuple #[entV x, .bool true]) (by simp [results, Try.results33, go_sem, entV, r0, r1, r2, r3]) rfl ⟨rfl, E.out _ _ _ _⟩
set_option maxHeartbeats 1000000 in
theorem askMPopMin (w : World) (db hb : Nat) (v : Value) (l : List En) (most : Int) (h0 : 0 < l.length) (hl : l.length ≤ 1000) (h : DeAt w db false hb v l most) : Calls Try.prog 33 #[.pointer (some ⟨db, 0, none⟩), .func (.methodOf 63 "PopMin") #[] #[]] w (fun e w' => e = .returned (.tuple #[entV (hdE false (srt l)), .bool true]) ∧ Lost false db false hb v l most w w') := by
  have B1 : Below w.heap.size w (w.alloc (.cells #[.int .i64 0, .int .i64 0, .int .i64 0, .int .i64 0] 32)) := (Below.refl _ _).alloc (Nat.le_refl _) _
  have L1 := len_anyD _ db false hb v l most (h.next B1)
  have TK := inMPopMin h0 hl h _ B1
  have HN := Lib.hid (heap_alloc_new w (.cells #[.int .i64 0, .int .i64 0, .int .i64 0, .int .i64 0] 32))
  have HB1 := Lib.hid B1
  have HZ : Hid (w.heap.size < (w.alloc (.cells #[.int .i64 0, .int .i64 0, .int .i64 0, .int .i64 0] 32)).heap.size) := by show _ < _; simp
  have HH := Lib.hid h
  have c0 := (h.next B1).c0
  unfold ifc at c0
  have q := methMPopMin hb
  generalize hdE false (srt l) = x at *
  obtain ⟨n, en⟩ : ∃ n, l.length = n := ⟨_, rfl⟩
  rw [en] at L1 hl h0
  have hn : ((n : Int) == 0) = false := by simp; omega
  clear h B1 en
  unfold entV at *
  go_enter Try.func33, Try.ntmps33
  go_wp2_with fail
  with_reducible refine L1.mono ?_
  rintro e w' ⟨rfl, rfl⟩
  clear L1
  generalize (w.alloc (.cells #[.int .i64 0, .int .i64 0, .int .i64 0, .int .i64 0] 32)) = w1 at *
  go_wp2_with fail
  with_reducible refine TK.mono ?_
  rintro e w2 ⟨rfl, hP⟩
  obtain ⟨r0, r1, r2, r3, f0, f1, f2, f3, rz⟩ := cells4 (hP.cells HH.out HN.out)
  have E : Hid (∀ v0 v1 v2 v3, Lost false db false hb v l most w ((((w2.setCell ⟨w.heap.size, 0, none⟩ v0).setCell ⟨w.heap.size, 1, none⟩ v1).setCell ⟨w.heap.size, 2, none⟩ v2).setCell ⟨w.heap.size, 3, none⟩ v3)) := hP.result HB1.out HH.out
  clear hP TK
  go_wp2
  exact bodyPost_ret (v := .tuple #[entV x, .bool true]) (by simp [results, Try.results33, go_sem, entV, r0, r1, r2, r3]) rfl ⟨rfl, E.out _ _ _ _⟩
set_option maxHeartbeats 1000000 in
theorem askIPopMin (w : World) (db hb : Nat) (v : Value) (l : List En) (most : Int) (h0 : 0 < l.length) (hl : l.length ≤ 1000) (h : DeAt w db true hb v l most) : Calls Try.prog 33 #[.pointer (some ⟨db, 0, none⟩), .func (.methodOf 63 "PopMin") #[] #[]] w (fun e w' => e = .returned (.tuple #[entV (hdE false (srt l)), .bool true]) ∧ Lost false db true hb v l most w w') := by
  have B1 : Below w.heap.size w (w.alloc (.cells #[.int .i64 0, .int .i64 0, .int .i64 0, .int .i64 0] 32)) := (Below.refl _ _).alloc (Nat.le_refl _) _
  have L1 := len_anyD _ db true hb v l most (h.next B1)
  have TK := inIPopMin h0 hl h _ B1
  have HN := Lib.hid (heap_alloc_new w (.cells #[.int .i64 0, .int .i64 0, .int .i64 0, .int .i64 0] 32))
  have HB1 := Lib.hid B1
  have HZ : Hid (w.heap.size < (w.alloc (.cells #[.int .i64 0, .int .i64 0, .int .i64 0, .int .i64 0] 32)).heap.size) := by show _ < _; simp
  have HH := Lib.hid h
  have c0 := (h.next B1).c0
  unfold ifc at c0
  have q := methIPopMin hb
  generalize hdE false (srt l) = x at *
  obtain ⟨n, en⟩ : ∃ n, l.length = n := ⟨_, rfl⟩
  rw [en] at L1 hl h0
  have hn : ((n : Int) == 0) = false := by simp; omega
  clear h B1 en
  unfold entV at *
  go_enter Try.func33, Try.ntmps33
  go_wp2_with fail
  with_reducible refine L1.mono ?_
  rintro e w' ⟨rfl, rfl⟩
  clear L1
  generalize (w.alloc (.cells #[.int .i64 0, .int .i64 0, .int .i64 0, .int .i64 0] 32)) = w1 at *
  go_wp2_with fail
  with_reducible refine TK.mono ?_
  rintro e w2 ⟨rfl, hP⟩
  obtain ⟨r0, r1, r2, r3, f0, f1, f2, f3, rz⟩ := cells4 (hP.cells HH.out HN.out)
  have E : Hid (∀ v0 v1 v2 v3, Lost false db true hb v l most w ((((w2.setCell ⟨w.heap.size, 0, none⟩ v0).setCell ⟨w.heap.size, 1, none⟩ v1).setCell ⟨w.heap.size, 2, none⟩ v2).setCell ⟨w.heap.size, 3, none⟩ v3)) := hP.result HB1.out HH.out
  clear hP TK
  go_wp2
  exact bodyPost_ret (v := .tuple #[entV x, .bool true]) (by simp [results, Try.results33, go_sem, entV, r0, r1, r2, r3]) rfl ⟨rfl, E.out _ _ _ _⟩
set_option maxHeartbeats 1000000 in
theorem askMPopMax (w : World) (db hb : Nat) (v : Value) (l : List En) (most : Int) (h0 : 0 < l.length) (hl : l.length ≤ 1000) (h : DeAt w db false hb v l most) : Calls Try.prog 33 #[.pointer (some ⟨db, 0, none⟩), .func (.methodOf 63 "PopMax") #[] #[]] w (fun e w' => e = .returned (.tuple #[entV (hdE true (srt l)), .bool true]) ∧ Lost true db false hb v l most w w') := by
  have B1 : Below w.heap.size w (w.alloc (.cells #[.int .i64 0, .int .i64 0, .int .i64 0, .int .i64 0] 32)) := (Below.refl _ _).alloc (Nat.le_refl _) _
  have L1 := len_anyD _ db false hb v l most (h.next B1)
  have TK := inMPopMax h0 hl h _ B1
  have HN := Lib.hid (heap_alloc_new w (.cells #[.int .i64 0, .int .i64 0, .int .i64 0, .int .i64 0] 32))
  have HB1 := Lib.hid B1
  have HZ : Hid (w.heap.size < (w.alloc (.cells #[.int .i64 0, .int .i64 0, .int .i64 0, .int .i64 0] 32)).heap.size) := by show _ < _; simp
  have HH := Lib.hid h
  have c0 := (h.next B1).c0
  unfold ifc at c0
  have q := methMPopMax hb
  generalize hdE true (srt l) = x at *
  obtain ⟨n, en⟩ : ∃ n, l.length = n := ⟨_, rfl⟩
  rw [en] at L1 hl h0
  have hn : ((n : Int) == 0) = false := by simp; omega
  clear h B1 en
  unfold entV at *
  go_enter Try.func33, Try.ntmps33
  go_wp2_with fail
  with_reducible refine L1.mono ?_
  rintro e w' ⟨rfl, rfl⟩
  clear L1
  generalize (w.alloc (.cells #[.int .i64 0, .int .i64 0, .int .i64 0, .int .i64 0] 32)) = w1 at *
  go_wp2_with fail
  with_reducible refine TK.mono ?_
  rintro e w2 ⟨rfl, hP⟩
  obtain ⟨r0, r1, r2, r3, f0, f1, f2, f3, rz⟩ := cells4 (hP.cells HH.out HN.out)
  have E : Hid (∀ v0 v1 v2 v3, Lost true db false hb v l most w ((((w2.setCell ⟨w.heap.size, 0, none⟩ v0).setCell ⟨w.heap.size, 1, none⟩ v1).setCell ⟨w.heap.size, 2, none⟩ v2).setCell ⟨w.heap.size, 3, none⟩ v3)) := hP.result HB1.out HH.out
  clear hP TK
  go_wp2
  exact bodyPost_ret (v := .tuple #[entV x, .bool true]) (by simp [results, Try.results33, go_sem, entV, r0, r1, r2, r3]) rfl ⟨rfl, E.out _ _ _ _⟩
set_option maxHeartbeats 1000000 in
theorem askIPopMax (w : World) (db hb : Nat) (v : Value) (l : List En) (most : Int) (h0 : 0 < l.length) (hl : l.length ≤ 1000) (h : DeAt w db true hb v l most) : Calls Try.prog 33 #[.pointer (some ⟨db, 0, none⟩), .func (.methodOf 63 "PopMax") #[] #[]] w (fun e w' => e = .returned (.tuple #[entV (hdE true (srt l)), .bool true]) ∧ Lost true db true hb v l most w w') := by
  have B1 : Below w.heap.size w (w.alloc (.cells #[.int .i64 0, .int .i64 0, .int .i64 0, .int .i64 0] 32)) := (Below.refl _ _).alloc (Nat.le_refl _) _
  have L1 := len_anyD _ db true hb v l most (h.next B1)
  have TK := inIPopMax h0 hl h _ B1
  have HN := Lib.hid (heap_alloc_new w (.cells #[.int .i64 0, .int .i64 0, .int .i64 0, .int .i64 0] 32))
  have HB1 := Lib.hid B1
  have HZ : Hid (w.heap.size < (w.alloc (.cells #[.int .i64 0, .int .i64 0, .int .i64 0, .int .i64 0] 32)).heap.size) := by show _ < _; simp
  have HH := Lib.hid h
  have c0 := (h.next B1).c0
  unfold ifc at c0
  have q := methIPopMax hb
  generalize hdE true (srt l) = x at *
  obtain ⟨n, en⟩ : ∃ n, l.length = n := ⟨_, rfl⟩
  rw [en] at L1 hl h0
  have hn : ((n : Int) == 0) = false := by simp; omega
  clear h B1 en
  unfold entV at *
  go_enter Try.func33, Try.ntmps33
  go_wp2_with fail
  with_reducible refine L1.mono ?_
  rintro e w' ⟨rfl, rfl⟩
  clear L1
  generalize (w.alloc (.cells #[.int .i64 0, .int .i64 0, .int .i64 0, .int .i64 0] 32)) = w1 at *
  go_wp2_with fail
  with_reducible refine TK.mono ?_
  rintro e w2 ⟨rfl, hP⟩
  obtain ⟨r0, r1, r2, r3, f0, f1, f2, f3, rz⟩ := cells4 (hP.cells HH.out HN.out)
  have E : Hid (∀ v0 v1 v2 v3, Lost true db true hb v l most w ((((w2.setCell ⟨w.heap.size, 0, none⟩ v0).setCell ⟨w.heap.size, 1, none⟩ v1).setCell ⟨w.heap.size, 2, none⟩ v2).setCell ⟨w.heap.size, 3, none⟩ v3)) := hP.result HB1.out HH.out
  clear hP TK
  go_wp2
  exact bodyPost_ret (v := .tuple #[entV x, .bool true]) (by simp [results, Try.results33, go_sem, entV, r0, r1, r2, r3]) rfl ⟨rfl, E.out _ _ _ _⟩
theorem askDMin {w : World} {F : Nat → Prop} {db : Nat} {k : Bool} {m : List En} {most : Int} (hl : m.length ≤ 1000) (h : De w F db k m most) : Calls Try.prog 33 #[.pointer (some ⟨db, 0, none⟩), .func (.methodOf 63 "Min") #[] #[]] w (AskT false m w) := by
  obtain ⟨hb, v, l, hd, rfl, h3, h4⟩ := h.at_
  by_cases h0 : 0 < l.length
  · have hm : 0 < (srt l).length := by rw [srt_length]; exact h0
    cases k
    · refine (askMMin w db hb v l most h0 (by rw [← srt_length]; exact hl) hd).mono ?_
      rintro e w' ⟨rfl, b⟩
      exact ⟨by rw [decide_eq_true hm], b⟩
    · refine (askIMin w db hb v l most h0 (by rw [← srt_length]; exact hl) hd).mono ?_
      rintro e w' ⟨rfl, b⟩
      exact ⟨by rw [decide_eq_true hm], b⟩
  · obtain rfl : l = [] := List.eq_nil_of_length_eq_zero (by omega)
    refine (ask_none _ _ w (fun w' b => len_anyD w' db k hb v [] most (hd.next b))).mono ?_
    rintro e w' ⟨rfl, b⟩
    have e0 : srt [] = [] := List.eq_nil_of_length_eq_zero (by rw [srt_length]; rfl)
    rw [e0] at h ⊢
    exact ⟨rfl, b⟩
theorem askDMax {w : World} {F : Nat → Prop} {db : Nat} {k : Bool} {m : List En} {most : Int} (hl : m.length ≤ 1000) (h : De w F db k m most) : Calls Try.prog 33 #[.pointer (some ⟨db, 0, none⟩), .func (.methodOf 63 "Max") #[] #[]] w (AskT true m w) := by
  obtain ⟨hb, v, l, hd, rfl, h3, h4⟩ := h.at_
  by_cases h0 : 0 < l.length
  · have hm : 0 < (srt l).length := by rw [srt_length]; exact h0
    cases k
    · refine (askMMax w db hb v l most h0 (by rw [← srt_length]; exact hl) hd).mono ?_
      rintro e w' ⟨rfl, b⟩
      exact ⟨by rw [decide_eq_true hm], b⟩
    · refine (askIMax w db hb v l most h0 (by rw [← srt_length]; exact hl) hd).mono ?_
      rintro e w' ⟨rfl, b⟩
      exact ⟨by rw [decide_eq_true hm], b⟩
  · obtain rfl : l = [] := List.eq_nil_of_length_eq_zero (by omega)
    refine (ask_none _ _ w (fun w' b => len_anyD w' db k hb v [] most (hd.next b))).mono ?_
    rintro e w' ⟨rfl, b⟩
    have e0 : srt [] = [] := List.eq_nil_of_length_eq_zero (by rw [srt_length]; rfl)
    rw [e0] at h ⊢
    exact ⟨rfl, b⟩
theorem askDPopMin {w : World} {F : Nat → Prop} {db : Nat} {k : Bool} {m : List En} {most : Int} (hl : m.length ≤ 1000) (h : De w F db k m most) : Calls Try.prog 33 #[.pointer (some ⟨db, 0, none⟩), .func (.methodOf 63 "PopMin") #[] #[]] w (AskP false F db k m most w) := by
  obtain ⟨hb, v, l, hd, rfl, h3, h4⟩ := h.at_
  by_cases h0 : 0 < l.length
  · have hm : 0 < (srt l).length := by rw [srt_length]; exact h0
    cases k
    · refine (askMPopMin w db hb v l most h0 (by rw [← srt_length]; exact hl) hd).mono ?_
      rintro e w' ⟨rfl, ⟨⟨v', l', g1, g2, g3⟩, ho⟩⟩
      exact ⟨by rw [decide_eq_true hm], ⟨⟨hb, v', l', g1, g2, h3, fun q e => h4 q (g3 q e)⟩, h.F0, fun b hb => Nat.lt_of_lt_of_le (h.lt b hb) ho.size⟩, Kept.off ho h3 h4⟩
    · refine (askIPopMin w db hb v l most h0 (by rw [← srt_length]; exact hl) hd).mono ?_
      rintro e w' ⟨rfl, ⟨⟨v', l', g1, g2, g3⟩, ho⟩⟩
      exact ⟨by rw [decide_eq_true hm], ⟨⟨hb, v', l', g1, g2, h3, fun q e => h4 q (g3 q e)⟩, h.F0, fun b hb => Nat.lt_of_lt_of_le (h.lt b hb) ho.size⟩, Kept.off ho h3 h4⟩
  · obtain rfl : l = [] := List.eq_nil_of_length_eq_zero (by omega)
    refine (ask_none _ _ w (fun w' b => len_anyD w' db k hb v [] most (hd.next b))).mono ?_
    rintro e w' ⟨rfl, b⟩
    have e0 : srt [] = [] := List.eq_nil_of_length_eq_zero (by rw [srt_length]; rfl)
    rw [e0] at h ⊢
    exact ⟨rfl, h.next b, Kept.of b⟩
theorem askDPopMax {w : World} {F : Nat → Prop} {db : Nat} {k : Bool} {m : List En} {most : Int} (hl : m.length ≤ 1000) (h : De w F db k m most) : Calls Try.prog 33 #[.pointer (some ⟨db, 0, none⟩), .func (.methodOf 63 "PopMax") #[] #[]] w (AskP true F db k m most w) := by
  obtain ⟨hb, v, l, hd, rfl, h3, h4⟩ := h.at_
  by_cases h0 : 0 < l.length
  · have hm : 0 < (srt l).length := by rw [srt_length]; exact h0
    cases k
    · refine (askMPopMax w db hb v l most h0 (by rw [← srt_length]; exact hl) hd).mono ?_
      rintro e w' ⟨rfl, ⟨⟨v', l', g1, g2, g3⟩, ho⟩⟩
      exact ⟨by rw [decide_eq_true hm], ⟨⟨hb, v', l', g1, g2, h3, fun q e => h4 q (g3 q e)⟩, h.F0, fun b hb => Nat.lt_of_lt_of_le (h.lt b hb) ho.size⟩, Kept.off ho h3 h4⟩
    · refine (askIPopMax w db hb v l most h0 (by rw [← srt_length]; exact hl) hd).mono ?_
      rintro e w' ⟨rfl, ⟨⟨v', l', g1, g2, g3⟩, ho⟩⟩
      exact ⟨by rw [decide_eq_true hm], ⟨⟨hb, v', l', g1, g2, h3, fun q e => h4 q (g3 q e)⟩, h.F0, fun b hb => Nat.lt_of_lt_of_le (h.lt b hb) ho.size⟩, Kept.off ho h3 h4⟩
  · obtain rfl : l = [] := List.eq_nil_of_length_eq_zero (by omega)
    refine (ask_none _ _ w (fun w' b => len_anyD w' db k hb v [] most (hd.next b))).mono ?_
    rintro e w' ⟨rfl, b⟩
    have e0 : srt [] = [] := List.eq_nil_of_length_eq_zero (by rw [srt_length]; rfl)
    rw [e0] at h ⊢
    exact ⟨rfl, h.next b, Kept.of b⟩
set_option maxHeartbeats 1000000 in
theorem min_of (v : Value) (x : En) (d : Bool) (w : World) (L : ∀ w' : World, Below w.heap.size w w' → Calls Try.prog 33 #[v, .func (.methodOf 63 "Min") #[] #[]] w' (Told x d w')) : Calls Try.prog 18 #[v] w (Told x d w) := by
  have B1 : Below w.heap.size w (w.alloc (.cells #[.int .i64 0, .int .i64 0, .int .i64 0, .int .i64 0] 32)) := (Below.refl _ _).alloc (Nat.le_refl _) _
  have TK := L _ B1
  have HN := Lib.hid (heap_alloc_new w (.cells #[.int .i64 0, .int .i64 0, .int .i64 0, .int .i64 0] 32))
  have HZ : Hid (w.heap.size < (w.alloc (.cells #[.int .i64 0, .int .i64 0, .int .i64 0, .int .i64 0] 32)).heap.size) := by show _ < _; simp
  have HB1 := Lib.hid B1
  clear L B1
  unfold Told at *
  unfold entV at *
  go_enter Try.func18, Try.ntmps18
  go_wp2_with fail
  generalize (w.alloc (.cells #[.int .i64 0, .int .i64 0, .int .i64 0, .int .i64 0] 32)) = w1 at *
  with_reducible refine TK.mono ?_
  rintro e w2 ⟨rfl, hP⟩
  obtain ⟨r0, r1, r2, r3, f0, f1, f2, f3, rz⟩ := cells4 ((hP.block _ HZ.out).trans HN.out)
  have E : Hid (∀ v0 v1 v2 v3, Below w.heap.size w ((((w2.setCell ⟨w.heap.size, 0, none⟩ v0).setCell ⟨w.heap.size, 1, none⟩ v1).setCell ⟨w.heap.size, 2, none⟩ v2).setCell ⟨w.heap.size, 3, none⟩ v3)) := fun _ _ _ _ => below_set4 (HB1.out.trans (hP.mono HB1.out.size)) (Nat.le_refl _) _ _ _ _
  clear hP TK
  go_wp2
  exact bodyPost_ret (v := .tuple #[entV x, .bool d]) (by simp [results, Try.results18, go_sem, entV, r0, r1, r2, r3]) rfl ⟨rfl, E.out _ _ _ _⟩
theorem minD (w : World) {F : Nat → Prop} {db : Nat} {k : Bool} {m : List En} {most : Int} (hl : m.length ≤ 1000) (h : De w F db k m most) : Calls Try.prog 18 #[.pointer (some ⟨db, 0, none⟩)] w (AskT false m w) :=
  min_of _ _ _ w (fun _ b => askDMin hl (h.next b))
theorem minD_nil (w : World) : Calls Try.prog 18 #[.pointer none] w (Told zeroE false w) :=
  min_of _ _ _ w (fun w' _ => ask_none _ _ w' (fun w'' _ => len_nilD w''))
set_option maxHeartbeats 1000000 in
theorem max_of (v : Value) (x : En) (d : Bool) (w : World) (L : ∀ w' : World, Below w.heap.size w w' → Calls Try.prog 33 #[v, .func (.methodOf 63 "Max") #[] #[]] w' (Told x d w')) : Calls Try.prog 29 #[v] w (Told x d w) := by
  have B1 : Below w.heap.size w (w.alloc (.cells #[.int .i64 0, .int .i64 0, .int .i64 0, .int .i64 0] 32)) := (Below.refl _ _).alloc (Nat.le_refl _) _
  have TK := L _ B1
  have HN := Lib.hid (heap_alloc_new w (.cells #[.int .i64 0, .int .i64 0, .int .i64 0, .int .i64 0] 32))
  have HZ : Hid (w.heap.size < (w.alloc (.cells #[.int .i64 0, .int .i64 0, .int .i64 0, .int .i64 0] 32)).heap.size) := by show _ < _; simp
  have HB1 := Lib.hid B1
  clear L B1
  unfold Told at *
  unfold entV at *
  go_enter Try.func29, Try.ntmps29
  go_wp2_with fail
  generalize (w.alloc (.cells #[.int .i64 0, .int .i64 0, .int .i64 0, .int .i64 0] 32)) = w1 at *
  with_reducible refine TK.mono ?_
  rintro e w2 ⟨rfl, hP⟩
  obtain ⟨r0, r1, r2, r3, f0, f1, f2, f3, rz⟩ := cells4 ((hP.block _ HZ.out).trans HN.out)
  have E : Hid (∀ v0 v1 v2 v3, Below w.heap.size w ((((w2.setCell ⟨w.heap.size, 0, none⟩ v0).setCell ⟨w.heap.size, 1, none⟩ v1).setCell ⟨w.heap.size, 2, none⟩ v2).setCell ⟨w.heap.size, 3, none⟩ v3)) := fun _ _ _ _ => below_set4 (HB1.out.trans (hP.mono HB1.out.size)) (Nat.le_refl _) _ _ _ _
  clear hP TK
  go_wp2
  exact bodyPost_ret (v := .tuple #[entV x, .bool d]) (by simp [results, Try.results29, go_sem, entV, r0, r1, r2, r3]) rfl ⟨rfl, E.out _ _ _ _⟩
theorem maxD (w : World) {F : Nat → Prop} {db : Nat} {k : Bool} {m : List En} {most : Int} (hl : m.length ≤ 1000) (h : De w F db k m most) : Calls Try.prog 29 #[.pointer (some ⟨db, 0, none⟩)] w (AskT true m w) :=
  max_of _ _ _ w (fun _ b => askDMax hl (h.next b))
theorem maxD_nil (w : World) : Calls Try.prog 29 #[.pointer none] w (Told zeroE false w) :=
  max_of _ _ _ w (fun w' _ => ask_none _ _ w' (fun w'' _ => len_nilD w''))
set_option maxHeartbeats 1000000 in
theorem popMinD (w : World) {F : Nat → Prop} {db : Nat} {k : Bool} {m : List En} {most : Int} (hl : m.length ≤ 1000) (h : De w F db k m most) : Calls Try.prog 23 #[.pointer (some ⟨db, 0, none⟩)] w (AskP false F db k m most w) := by
  have B1 : Below w.heap.size w (w.alloc (.cells #[.int .i64 0, .int .i64 0, .int .i64 0, .int .i64 0] 32)) := (Below.refl _ _).alloc (Nat.le_refl _) _
  have TK := askDPopMin hl (h.next B1)
  have HN := Lib.hid (heap_alloc_new w (.cells #[.int .i64 0, .int .i64 0, .int .i64 0, .int .i64 0] 32))
  have HZ : Hid (w.heap.size < (w.alloc (.cells #[.int .i64 0, .int .i64 0, .int .i64 0, .int .i64 0] 32)).heap.size) := by show _ < _; simp
  have HB1 := Lib.hid B1
  have HH := Lib.hid h
  clear h B1
  unfold AskP at *
  generalize hdE false m = x at *
  generalize decide (0 < m.length) = d at *
  unfold entV at *
  go_enter Try.func23, Try.ntmps23
  go_wp2_with fail
  generalize (w.alloc (.cells #[.int .i64 0, .int .i64 0, .int .i64 0, .int .i64 0] 32)) = w1 at *
  with_reducible refine TK.mono ?_
  rintro e w2 ⟨rfl, hD, hK⟩
  have hR : ¬ F w.heap.size := fun f => Nat.lt_irrefl _ (HH.out.lt _ f)
  obtain ⟨r0, r1, r2, r3, f0, f1, f2, f3, rz⟩ := cells4 ((hK.block _ HZ.out hR).trans HN.out)
  have E : Hid (∀ v0 v1 v2 v3, De ((((w2.setCell ⟨w.heap.size, 0, none⟩ v0).setCell ⟨w.heap.size, 1, none⟩ v1).setCell ⟨w.heap.size, 2, none⟩ v2).setCell ⟨w.heap.size, 3, none⟩ v3) F db k (tlE false m) most ∧ Kept F w ((((w2.setCell ⟨w.heap.size, 0, none⟩ v0).setCell ⟨w.heap.size, 1, none⟩ v1).setCell ⟨w.heap.size, 2, none⟩ v2).setCell ⟨w.heap.size, 3, none⟩ v3)) := fun _ _ _ _ =>
    ⟨hD.kept (G := fun b => b = w.heap.size) ((Kept.refl (fun b => b = w.heap.size) w2).set40 (Or.inl (show w.heap.size = w.heap.size from rfl)) _ _ _ _) (fun b f e => hR (by have e' : b = w.heap.size := e; rwa [e'] at f)), (((Kept.of (F := F) HB1.out).trans hK (fun _ _ f => f)).set40 (.inr (Nat.le_refl _)) _ _ _ _)⟩
  clear hD hK TK hR
  go_wp2
  exact bodyPost_ret (v := .tuple #[entV x, .bool d]) (by simp [results, Try.results23, go_sem, entV, r0, r1, r2, r3]) rfl ⟨rfl, E.out _ _ _ _⟩
set_option maxHeartbeats 1000000 in
theorem popMinD_nil (w : World) : Calls Try.prog 23 #[.pointer none] w (Told zeroE false w) := by
  have B1 : Below w.heap.size w (w.alloc (.cells #[.int .i64 0, .int .i64 0, .int .i64 0, .int .i64 0] 32)) := (Below.refl _ _).alloc (Nat.le_refl _) _
  have TK := ask_none (.pointer none) (.func (.methodOf 63 "PopMin") #[] #[]) (w.alloc (.cells #[.int .i64 0, .int .i64 0, .int .i64 0, .int .i64 0] 32)) (fun w'' _ => len_nilD w'')
  have HN := Lib.hid (heap_alloc_new w (.cells #[.int .i64 0, .int .i64 0, .int .i64 0, .int .i64 0] 32))
  have HZ : Hid (w.heap.size < (w.alloc (.cells #[.int .i64 0, .int .i64 0, .int .i64 0, .int .i64 0] 32)).heap.size) := by show _ < _; simp
  have HB1 := Lib.hid B1
  clear B1
  unfold Told at *
  generalize zeroE = x at *
  unfold entV at *
  go_enter Try.func23, Try.ntmps23
  go_wp2_with fail
  generalize (w.alloc (.cells #[.int .i64 0, .int .i64 0, .int .i64 0, .int .i64 0] 32)) = w1 at *
  with_reducible refine TK.mono ?_
  rintro e w2 ⟨rfl, hP⟩
  obtain ⟨r0, r1, r2, r3, f0, f1, f2, f3, rz⟩ := cells4 ((hP.block _ HZ.out).trans HN.out)
  have E : Hid (∀ v0 v1 v2 v3, Below w.heap.size w ((((w2.setCell ⟨w.heap.size, 0, none⟩ v0).setCell ⟨w.heap.size, 1, none⟩ v1).setCell ⟨w.heap.size, 2, none⟩ v2).setCell ⟨w.heap.size, 3, none⟩ v3)) := fun _ _ _ _ => below_set4 (HB1.out.trans (hP.mono HB1.out.size)) (Nat.le_refl _) _ _ _ _
  clear hP TK
  go_wp2
  exact bodyPost_ret (v := .tuple #[entV x, .bool false]) (by simp [results, Try.results23, go_sem, entV, r0, r1, r2, r3]) rfl ⟨rfl, E.out _ _ _ _⟩
set_option maxHeartbeats 1000000 in
theorem popMaxD (w : World) {F : Nat → Prop} {db : Nat} {k : Bool} {m : List En} {most : Int} (hl : m.length ≤ 1000) (h : De w F db k m most) : Calls Try.prog 19 #[.pointer (some ⟨db, 0, none⟩)] w (AskP true F db k m most w) := by
  have B1 : Below w.heap.size w (w.alloc (.cells #[.int .i64 0, .int .i64 0, .int .i64 0, .int .i64 0] 32)) := (Below.refl _ _).alloc (Nat.le_refl _) _
  have TK := askDPopMax hl (h.next B1)
  have HN := Lib.hid (heap_alloc_new w (.cells #[.int .i64 0, .int .i64 0, .int .i64 0, .int .i64 0] 32))
  have HZ : Hid (w.heap.size < (w.alloc (.cells #[.int .i64 0, .int .i64 0, .int .i64 0, .int .i64 0] 32)).heap.size) := by show _ < _; simp
  have HB1 := Lib.hid B1
  have HH := Lib.hid h
  clear h B1
  unfold AskP at *
  generalize hdE true m = x at *
  generalize decide (0 < m.length) = d at *
  unfold entV at *
  go_enter Try.func19, Try.ntmps19
  go_wp2_with fail
  generalize (w.alloc (.cells #[.int .i64 0, .int .i64 0, .int .i64 0, .int .i64 0] 32)) = w1 at *
  with_reducible refine TK.mono ?_
  rintro e w2 ⟨rfl, hD, hK⟩
  have hR : ¬ F w.heap.size := fun f => Nat.lt_irrefl _ (HH.out.lt _ f)
  obtain ⟨r0, r1, r2, r3, f0, f1, f2, f3, rz⟩ := cells4 ((hK.block _ HZ.out hR).trans HN.out)
  have E : Hid (∀ v0 v1 v2 v3, De ((((w2.setCell ⟨w.heap.size, 0, none⟩ v0).setCell ⟨w.heap.size, 1, none⟩ v1).setCell ⟨w.heap.size, 2, none⟩ v2).setCell ⟨w.heap.size, 3, none⟩ v3) F db k (tlE true m) most ∧ Kept F w ((((w2.setCell ⟨w.heap.size, 0, none⟩ v0).setCell ⟨w.heap.size, 1, none⟩ v1).setCell ⟨w.heap.size, 2, none⟩ v2).setCell ⟨w.heap.size, 3, none⟩ v3)) := fun _ _ _ _ =>
    ⟨hD.kept (G := fun b => b = w.heap.size) ((Kept.refl (fun b => b = w.heap.size) w2).set40 (Or.inl (show w.heap.size = w.heap.size from rfl)) _ _ _ _) (fun b f e => hR (by have e' : b = w.heap.size := e; rwa [e'] at f)), (((Kept.of (F := F) HB1.out).trans hK (fun _ _ f => f)).set40 (.inr (Nat.le_refl _)) _ _ _ _)⟩
  clear hD hK TK hR
  go_wp2
  exact bodyPost_ret (v := .tuple #[entV x, .bool d]) (by simp [results, Try.results19, go_sem, entV, r0, r1, r2, r3]) rfl ⟨rfl, E.out _ _ _ _⟩
set_option maxHeartbeats 1000000 in
theorem popMaxD_nil (w : World) : Calls Try.prog 19 #[.pointer none] w (Told zeroE false w) := by
  have B1 : Below w.heap.size w (w.alloc (.cells #[.int .i64 0, .int .i64 0, .int .i64 0, .int .i64 0] 32)) := (Below.refl _ _).alloc (Nat.le_refl _) _
  have TK := ask_none (.pointer none) (.func (.methodOf 63 "PopMax") #[] #[]) (w.alloc (.cells #[.int .i64 0, .int .i64 0, .int .i64 0, .int .i64 0] 32)) (fun w'' _ => len_nilD w'')
  have HN := Lib.hid (heap_alloc_new w (.cells #[.int .i64 0, .int .i64 0, .int .i64 0, .int .i64 0] 32))
  have HZ : Hid (w.heap.size < (w.alloc (.cells #[.int .i64 0, .int .i64 0, .int .i64 0, .int .i64 0] 32)).heap.size) := by show _ < _; simp
  have HB1 := Lib.hid B1
  clear B1
  unfold Told at *
  generalize zeroE = x at *
  unfold entV at *
  go_enter Try.func19, Try.ntmps19
  go_wp2_with fail
  generalize (w.alloc (.cells #[.int .i64 0, .int .i64 0, .int .i64 0, .int .i64 0] 32)) = w1 at *
  with_reducible refine TK.mono ?_
  rintro e w2 ⟨rfl, hP⟩
  obtain ⟨r0, r1, r2, r3, f0, f1, f2, f3, rz⟩ := cells4 ((hP.block _ HZ.out).trans HN.out)
  have E : Hid (∀ v0 v1 v2 v3, Below w.heap.size w ((((w2.setCell ⟨w.heap.size, 0, none⟩ v0).setCell ⟨w.heap.size, 1, none⟩ v1).setCell ⟨w.heap.size, 2, none⟩ v2).setCell ⟨w.heap.size, 3, none⟩ v3)) := fun _ _ _ _ => below_set4 (HB1.out.trans (hP.mono HB1.out.size)) (Nat.le_refl _) _ _ _ _
  clear hP TK
  go_wp2
  exact bodyPost_ret (v := .tuple #[entV x, .bool false]) (by simp [results, Try.results19, go_sem, entV, r0, r1, r2, r3]) rfl ⟨rfl, E.out _ _ _ _⟩
end Go.Proofs.Ytiighhcilgjebaa
