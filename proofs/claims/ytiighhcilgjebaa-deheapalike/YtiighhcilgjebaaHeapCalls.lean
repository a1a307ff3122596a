/-
  What the calls of a heap do (layer 5): New, Build, Len, List, Min.
-/
import Derived.Test.YtiighhcilgjebaaSinkWalks
import Derived.Test.YtiighhcilgjebaaEntryKit
import Derived.Test.YtiighhcilgjebaaRegionKit2
import Derived.Deep.Onto
namespace Go.Proofs.Ytiighhcilgjebaa
set_option maxRecDepth 100000
open Go.RowKit Go.Sort

abbrev HeapAt := HeapAtT 97
abbrev Built := BuiltT 97 Right

set_option maxHeartbeats 1000000 in
theorem copied_list (l : List En) (hl : l.length ≤ 1000) (p : Option Addr) (c : Nat) (w : World)
    (hc : ∀ W ty, W.heap[w.heap.size]? = some (.cells (madeCells #[.int .i64 0, .int .i64 0, .int .i64 0, .int .i64 0] (l.length * 4)) 32 (0, 0)) → Below w.heap.size w W → ∃ n : Int, ∃ W', (Builtin.copy_ #[25, 25] ty #[.slice (some ⟨w.heap.size, 0, none⟩) l.length l.length, .slice p l.length c]).run Try.prog W = .ok (.int .i64 n) W' ∧ W'.heap[w.heap.size]? = some (.cells (flatE l).toArray 32 (0, 0)) ∧ Below w.heap.size w W') :
    Calls Try.prog 46 #[.slice p l.length c] w (IsCopied l w) := by
  obtain ⟨i0, hi, hz0, hz1, hz2⟩ := info_parts' infoE
  have hmk : ∀ W, (Instr.makeSlice 25 (.int .i64 (l.length : Int)) (.int .i64 (l.length : Int))).run Try.prog W = .ok (.slice (some ⟨W.heap.size, 0, none⟩) l.length l.length) (W.alloc (.cells (madeCells #[.int .i64 0, .int .i64 0, .int .i64 0, .int .i64 0] (l.length * 4)) 32)) := by
    intro W
    have := run_make (P := Try.prog) W 25 32 i0 _ Try.underlying25 hi hz0 .i64 .i64 (l.length : Int) (l.length : Int) (by omega) (by omega) (by rw [hz2]; omega) (by omega)
    rw [hz1] at this
    simpa [Value.cells] using this
  have hC := hc (w.alloc (.cells (madeCells #[.int .i64 0, .int .i64 0, .int .i64 0, .int .i64 0] (l.length * 4)) 32)) 3 (by rw [heap_alloc_new]) ((Below.refl _ _).alloc (Nat.le_refl _) _)
  obtain ⟨n0, W1, hrun, hg1, hb1⟩ := hC
  have HG := Lib.hid hg1
  have HB := Lib.hid hb1
  unfold IsCopied
  obtain ⟨N, hN⟩ : ∃ N, l.length = N := ⟨_, rfl⟩
  rw [hN] at hmk hrun ⊢
  clear hc hg1 hb1 hN hl hi hz0 hz1 hz2
  go_enter Try.func46, Try.ntmps46
  go_wp2_with (first | (at_builtin; refine wpList_copy_k rfl _ _ _ _ rfl _ _ rfl rfl _ _ hrun ?_) | fail)
  go_ret
  exact ⟨rfl, HG.out, HB.out⟩
theorem copied_some (l : List En) (hl : l.length ≤ 1000) (g c : Nat) (w : World) (h : ListAt w g l) : Calls Try.prog 46 #[.slice (some ⟨g, 0, none⟩) l.length c] w (IsCopied l w) := by
  refine copied_list l hl _ c w (fun W ty hW hb => ?_)
  have hr := run_copy_k (P := Try.prog) W 25 25 ty 32 4 w.heap.size l.length l.length ⟨g, 0, none⟩ l.length c _ 32 (flatE l) Try.underlying25 sizeE hW (by rw [flatE_length]; simp) (fun j v hj => by
    rw [add0, hb.cell (by exact h.1)]
    exact h.2 j v hj) (by rw [flatE_length, made_size]) flatE_one
  exact ⟨_, _, hr, setRow_heap W w.heap.size _ _ _ _ hW, below_setRow hb (Nat.le_refl _) _⟩
theorem copied_nil (w : World) : Calls Try.prog 46 #[.slice none 0 0] w (IsCopied [] w) := by
  refine copied_list [] (by simp) none 0 w (fun W ty hW hb => ?_)
  have hr := run_copy_nil (P := Try.prog) W 25 25 ty 32 ⟨w.heap.size, 0, none⟩ 0 0 Try.underlying25 (by rw [sizeE]; rfl)
  exact ⟨_, _, hr, hW.trans (by simp [flatE_nil, madeCells]), hb⟩
theorem copied_any (l : List En) (hl : l.length ≤ 1000) (v : Value) (w : World) (h : Lists w v l) : Calls Try.prog 46 #[v] w (IsCopied l w) := by
  rcases h with ⟨rfl, rfl⟩ | ⟨g, c, rfl, hL⟩
  · exact copied_nil w
  · exact copied_some l hl g c w hL
theorem len_nil (w : World) : Calls Try.prog 112 #[.pointer none] w fun e w' => e = .returned (.int .i64 0) ∧ w = w' := by
  go_enter Try.func112, Try.ntmps112
  go_wp2
  go_ret
  exact ⟨rfl, rfl⟩
theorem len_any (w : World) (B hb : Nat) (v : Value) (l : List En) (h : HeapAt w B hb v l) : Calls Try.prog 112 #[.pointer (some ⟨hb, 0, none⟩)] w fun e w' => e = .returned (.int .i64 (l.length : Int)) ∧ w = w' := by
  obtain ⟨p, c, rfl⟩ := h.slice
  have hc := h.cell
  generalize l.length = n at *
  clear h
  go_enter Try.func112, Try.ntmps112
  go_wp2
  go_ret
  exact ⟨rfl, rfl⟩
theorem list_nil (w : World) : Calls Try.prog 113 #[.pointer none] w fun e w' => e = .returned (.slice none 0 0) ∧ w = w' := by
  go_enter Try.func113, Try.ntmps113
  go_wp2
  go_ret
  exact ⟨rfl, rfl⟩
theorem list_any (w : World) (B hb : Nat) (v : Value) (l : List En) (hl : l.length ≤ 1000) (h : HeapAt w B hb v l) : Calls Try.prog 113 #[.pointer (some ⟨hb, 0, none⟩)] w (IsCopied l w) := by
  have C := copied_any l hl v w (lists_own h.row)
  have hc := h.cell
  clear h
  go_enter Try.func113, Try.ntmps113
  go_wp2_with fail
  with_reducible refine C.mono ?_
  rintro e w' hC
  have hC' := hC
  obtain ⟨rfl, h1, h2⟩ := hC'
  have HC := Lib.hid hC
  clear h1 h2 hC hc
  go_wp2
  go_ret
  exact HC.out

set_option maxHeartbeats 1000000 in
theorem build_any (l : List En) (hl : l.length ≤ 1000) (v : Value) (w : World) (h : Lists w v l) : Calls Try.prog 38 #[v] w (Built l w) := by
  have C := copied_any l hl v w h
  obtain ⟨n, en⟩ : ∃ n, l.length = n := ⟨_, rfl⟩
  have HEN := Lib.hid en
  unfold IsCopied at C
  rw [en] at C
  clear h
  rw [en] at hl
  clear en
  go_enter Try.func38, Try.ntmps38
  go_wp2_with fail
  with_reducible refine C.mono ?_
  rintro e w1 ⟨rfl, h1, h2⟩
  have hsz : w.heap.size < w1.heap.size := (Array.getElem?_eq_some_iff.1 h1).1
  have R1 : Row w.heap.size w.heap.size n n l (w1.alloc (.cells #[.slice (some ⟨w.heap.size, 0, none⟩) n n] 97)) := by
    have r := IsCopied.row (B := w.heap.size) (by rw [HEN.out]; exact hl) (Nat.le_refl _) h1
    rw [HEN.out] at r
    exact r.alloc _
  have AR := arrange_any l (by rw [HEN.out]; exact hl) w.heap.size w.heap.size n _ (by rw [HEN.out]; exact R1)
  rw [HEN.out] at AR
  have HB := Lib.hid (h2.alloc h2.size (.cells #[.slice (some ⟨w.heap.size, 0, none⟩) n n] 97))
  have HN := Lib.hid (heap_alloc_new w1 (.cells #[.slice (some ⟨w.heap.size, 0, none⟩) n n] 97))
  have hsz2 : w1.heap.size < (w1.alloc (.cells #[.slice (some ⟨w.heap.size, 0, none⟩) n n] 97)).heap.size := by simp
  have HSZ2 := Lib.hid hsz2
  clear h1 h2 R1 C hsz2
  go_wp2_with fail
  with_reducible refine AR.mono ?_
  rintro e w2 ⟨l', rfl, r2, g2, p2, q2⟩
  have E : Hid (Built l w (.returned (.pointer (some ⟨w1.heap.size, 0, none⟩))) w2) := by
    have hlen : l'.length = n := by rw [p2.length_eq, HEN.out]
    refine ⟨w1.heap.size, .slice (some ⟨w.heap.size, 0, none⟩) n n, l', rfl, ⟨?_, by omega, by rw [hlen]; exact r2, ?_⟩, p2, q2, HB.out.grown g2 (by simp; omega) (fun q hq => by simp at hq; omega)⟩
    · rw [g2.block _ HSZ2.out (by simp; omega)]
      exact HN.out
    · intro q hq
      simp [Value.ownBlock] at hq
      omega
  clear r2 g2 p2 q2 AR
  go_wp2
  go_ret
  exact E.out

theorem min_none (v : Value) (w : World) (L : ∀ w' : World, Below w.heap.size w w' → Calls Try.prog 112 #[v] w' fun e w'' => e = .returned (.int .i64 0) ∧ w' = w'') : Calls Try.prog 115 #[v] w (Told zeroE false w) := by
  have L1 := L (w.alloc (.cells #[.int .i64 0, .int .i64 0, .int .i64 0, .int .i64 0] 32)) ((Below.refl _ _).alloc (Nat.le_refl _) _)
  clear L
  go_enter Try.func115, Try.ntmps115
  go_wp2_with fail
  with_reducible refine L1.mono ?_
  rintro e w' ⟨rfl, rfl⟩
  clear L1
  go_wp2
  exact bodyPost_ret (v := .tuple #[entV zeroE, .bool false]) (by simp [results, Try.results115, go_sem, entV, zeroE]) rfl ⟨rfl, (Below.refl _ _).alloc (Nat.le_refl _) _⟩
theorem max_none (v : Value) (w : World) (L : ∀ w' : World, Below w.heap.size w w' → Calls Try.prog 112 #[v] w' fun e w'' => e = .returned (.int .i64 0) ∧ w' = w'') : Calls Try.prog 114 #[v] w (Told zeroE false w) := by
  have L1 := L (w.alloc (.cells #[.int .i64 0, .int .i64 0, .int .i64 0, .int .i64 0] 32)) ((Below.refl _ _).alloc (Nat.le_refl _) _)
  clear L
  go_enter Try.func114, Try.ntmps114
  go_wp2_with fail
  with_reducible refine L1.mono ?_
  rintro e w' ⟨rfl, rfl⟩
  clear L1
  go_wp2
  exact bodyPost_ret (v := .tuple #[entV zeroE, .bool false]) (by simp [results, Try.results114, go_sem, entV, zeroE]) rfl ⟨rfl, (Below.refl _ _).alloc (Nat.le_refl _) _⟩
theorem len0 {w : World} {B hb : Nat} {v : Value} (h : HeapAt w B hb v []) (w' : World) (hb' : Below w.heap.size w w') : Calls Try.prog 112 #[.pointer (some ⟨hb, 0, none⟩)] w' fun e w'' => e = .returned (.int .i64 0) ∧ w' = w'' := len_any w' B hb v [] (h.next hb')
set_option maxHeartbeats 1000000 in
theorem min_any (w : World) (B hb : Nat) (v : Value) (l : List En) (h0 : 0 < l.length) (hl : l.length ≤ 1000) (h : HeapAt w B hb v l) : Calls Try.prog 115 #[.pointer (some ⟨hb, 0, none⟩)] w (Told (nth l 0) true w) := by
  have L1 := len_any _ B hb v l (h.next (w' := w.alloc (.cells #[.int .i64 0, .int .i64 0, .int .i64 0, .int .i64 0] 32)) ((Below.refl _ _).alloc (Nat.le_refl _) _))
  obtain ⟨g, c, rfl, hL, hg⟩ := h.form h0
  have hlt := h.lt
  have hc := h.cell
  obtain ⟨a0, a1, a2, a3⟩ := hL.nth h0
  rw [Nat.zero_mul] at a0 a1 a2 a3
  rw [Nat.zero_add] at a1 a2 a3
  generalize nth l 0 = x at *
  generalize l.length = n at *
  have hn : ((n : Int) == 0) = false := by simp; omega
  have h0' : (0 : Int) < (n : Int) := by omega
  clear h hL
  go_enter Try.func115, Try.ntmps115
  go_wp2_with fail
  with_reducible refine L1.mono ?_
  rintro e w' ⟨rfl, rfl⟩
  clear L1
  go_wp2
  exact bodyPost_ret (v := .tuple #[entV x, .bool true]) (by simp [results, Try.results115, go_sem, entV]) rfl ⟨rfl, (Below.refl _ _).alloc (Nat.le_refl _) _⟩
def planMax (hb g m n c : Nat) (x : En) : Plan := { ks := [0, 0, 0, 0, 0, 0, 0, 0, 0, 0, 0, 2, 0], ds := [8, 9, 10, 11, 12, 13, 14, 15, 16, 17, 18, 0, 3], vs := [.pointer (some ⟨hb, 0, none⟩), .pointer (some ⟨hb, 0, none⟩), .pointer (some ⟨hb, 0, none⟩), .slice (some ⟨g, 0, none⟩) n c, .pointer (some ⟨hb, 0, none⟩), .pointer (some ⟨hb, 0, none⟩), .pointer (some ⟨hb, 0, none⟩), .slice (some ⟨g, 0, none⟩) n c, .int .i64 (m : Int), .pointer (some ⟨g, m * 4, none⟩), .agg #[.int .i64 x.b, .int .i64 x.d, .int .i64 x.s, .int .i64 x.i], undef, .bool true], ss := [0, 0, 0, 0, 0, 0, 0, 0, 0, 0, 0, 0, 0], zs := [#[], #[], #[], #[], #[], #[], #[], #[], #[], #[], #[], #[], #[]], fs := [#[], #[], #[], #[], #[], #[], #[], #[], #[], #[], #[], #[], #[]], ts := [0, 0, 0, 0, 0, 0, 0, 0, 0, 0, 0, 0, 0] }
set_option maxHeartbeats 2000000 in
theorem max_any (w : World) (B hb : Nat) (v : Value) (l : List En) (h0 : 0 < l.length) (hl : l.length ≤ 1000) (h : HeapAt w B hb v l) : Calls Try.prog 114 #[.pointer (some ⟨hb, 0, none⟩)] w (Told (nth l (lastP l)) true w) := by
  have B1 : Below w.heap.size w (w.alloc (.cells #[.int .i64 0, .int .i64 0, .int .i64 0, .int .i64 0] 32)) := (Below.refl _ _).alloc (Nat.le_refl _) _
  have L1 := len_any _ B hb v l (h.next B1)
  obtain ⟨g, c, rfl, hL, hg⟩ := h.form h0
  have LA := fun wr (hb' : Below w.heap.size w wr) => last_any l h0 hl g c wr (hL.next hb')
  have hml := (lastP_lt h0).1
  obtain ⟨a0, a1, a2, a3⟩ := (hL.next B1).nth hml
  have F : Hid (MaxSt w hb g (lastP l) l.length c (nth l (lastP l)) (w.alloc (.cells #[.int .i64 0, .int .i64 0, .int .i64 0, .int .i64 0] 32)).drew) :=
    MaxSt.next (MaxSt.make ⟨(h.next B1).cell, a0, a1, a2, a3⟩ (heap_alloc_new _ _) ⟨h.lt, hg⟩ B1) (Below.refl _ _).drew
  have HLA := Lib.hid LA
  generalize nth l (lastP l) = x at *
  generalize lastP l = m at *
  generalize l.length = n at *
  have hn : ((n : Int) == 0) = false := by simp; omega
  have c1 : (0 : Int) ≤ (m : Int) := by omega
  have c2 : (m : Int) < (n : Int) := by omega
  clear h hL a0 a1 a2 a3 LA B1
  go_enter Try.func114, Try.ntmps114
  go_wp2_with fail
  with_reducible refine L1.mono ?_
  rintro e w' ⟨rfl, rfl⟩
  clear L1
  go_wp2
  have ok : (planMax hb g m n c x).ok = true := rfl
  refine region_inv (Inv := fun lq_ a wr => ∃ (e : Nat → Bool) (t : Nat → Value), lq_ = #[e 0, e 1, e 2, e 3, e 4, e 5, e 6, e 7, e 8, e 9, e 10, e 11, e 12] ∧ a = ⟨#[.pointer (some ⟨hb, 0, none⟩), undef, .pointer (some ⟨w.heap.size, 0, none⟩), t 3, .pointer (some ⟨hb, 0, none⟩), .int .i64 (n : Int), .bool false, undef, t 8, t 9, t 10, t 11, t 12, t 13, t 14, t 15, t 16, t 17, t 18], []⟩ ∧ Vals (planMax hb g m n c x) e t ∧ MMax w hb g m n c x e wr) (by kernel_rfl) ?step ?start ?done
  case start => exact ⟨fun _ => false, fun j => if j = 3 then .bool false else undef, rfl, rfl, Vals.start _ _, ⟨fun _ => F.out, (fun h => by cases h), (fun h => by cases h)⟩⟩
  case step =>
    rintro lq_ a wr ⟨e, t, rfl, rfl, hs, hm⟩ q_ o ho hi ha
    match q_, ho, hi, ha with
    | 0, ho, hi, ha =>
      obtain rfl : _ = o := Option.some.inj ho
      have hi : e 0 = false := hi
      refine wpOp_step (i := 0) rfl (fun K hK => ?_)
      have HK : Shut (∀ a w, _ → K a w) := hK
      clear hK ho
      have HS := Lib.hid hs
      have HM := Lib.hid hm
      have HI := Lib.hid hi
      clear hs ha hm hi
      go_simp
      exact HK.out _ _ ⟨upd e 0 true, upd t 8 _, rfl, rfl, by exact HS.out.put ok (i := 0) rfl, HM.out.of rfl (.inl rfl) (.inl rfl) (.inl rfl) (.inl rfl)⟩
    | 1, ho, hi, ha =>
      obtain rfl : _ = o := Option.some.inj ho
      have hi : e 1 = false := hi
      have T0 : t 8 = .pointer (some ⟨hb, 0, none⟩) := hs.val 0 rfl (ha { on := 0, ground := .data } (by simp) rfl)
      have H0 := Lib.hid T0
      refine wpOp_step (i := 1) rfl (fun K hK => ?_)
      have HK : Shut (∀ a w, _ → K a w) := hK
      clear hK ho
      have HS := Lib.hid hs
      have HM := Lib.hid hm
      have HI := Lib.hid hi
      clear hs ha hm hi
      go_simp
      exact HK.out _ _ ⟨upd e 1 true, upd (upd t 8 _) 9 _, rfl, rfl, by rw [upd_self H0.out]; exact HS.out.put ok (i := 1) rfl, HM.out.of rfl (.inl rfl) (.inl rfl) (.inl rfl) (.inl rfl)⟩
    | 2, ho, hi, ha =>
      obtain rfl : _ = o := Option.some.inj ho
      have hi : e 2 = false := hi
      have T1 : t 9 = .pointer (some ⟨hb, 0, none⟩) := hs.val 1 rfl (ha { on := 1, ground := .data } (by simp) rfl)
      have H1 := Lib.hid T1
      refine wpOp_step (i := 2) rfl (fun K hK => ?_)
      have HK : Shut (∀ a w, _ → K a w) := hK
      clear hK ho
      have HS := Lib.hid hs
      have HM := Lib.hid hm
      have HI := Lib.hid hi
      clear hs ha hm hi
      go_simp
      exact HK.out _ _ ⟨upd e 2 true, upd (upd t 9 _) 10 _, rfl, rfl, by rw [upd_self H1.out]; exact HS.out.put ok (i := 2) rfl, HM.out.of rfl (.inl rfl) (.inl rfl) (.inl rfl) (.inl rfl)⟩
    | 3, ho, hi, ha =>
      obtain rfl : _ = o := Option.some.inj ho
      have hi : e 3 = false := hi
      have T2 : t 10 = .pointer (some ⟨hb, 0, none⟩) := hs.val 2 rfl (ha { on := 2, ground := .data } (by simp) rfl)
      have H2 := Lib.hid T2
      obtain ⟨_, F⟩ := hm.st (.inl hi)
      obtain ⟨k0, k1, k2, k3, k4, q0, q1, q2, q3, f0, f1, f2, f3⟩ := F.cs
      clear F
      refine wpOp_step (i := 3) rfl (fun K hK => ?_)
      have HK : Shut (∀ a w, _ → K a w) := hK
      clear hK ho
      have HS := Lib.hid hs
      have HM := Lib.hid hm
      have HI := Lib.hid hi
      clear hs ha hm hi
      go_simp
      exact HK.out _ _ ⟨upd e 3 true, upd (upd t 10 _) 11 _, rfl, rfl, by rw [upd_self H2.out]; exact HS.out.put ok (i := 3) rfl, HM.out.of rfl (.inr rfl) (.inl rfl) (.inl rfl) (.inl rfl)⟩
    | 4, ho, hi, ha =>
      obtain rfl : _ = o := Option.some.inj ho
      have hi : e 4 = false := hi
      refine wpOp_step (i := 4) rfl (fun K hK => ?_)
      have HK : Shut (∀ a w, _ → K a w) := hK
      clear hK ho
      have HS := Lib.hid hs
      have HM := Lib.hid hm
      have HI := Lib.hid hi
      clear hs ha hm hi
      go_simp
      exact HK.out _ _ ⟨upd e 4 true, upd t 12 _, rfl, rfl, by exact HS.out.put ok (i := 4) rfl, HM.out.of rfl (.inl rfl) (.inl rfl) (.inl rfl) (.inl rfl)⟩
    | 5, ho, hi, ha =>
      obtain rfl : _ = o := Option.some.inj ho
      have hi : e 5 = false := hi
      have T4 : t 12 = .pointer (some ⟨hb, 0, none⟩) := hs.val 4 rfl (ha { on := 4, ground := .data } (by simp) rfl)
      have H4 := Lib.hid T4
      refine wpOp_step (i := 5) rfl (fun K hK => ?_)
      have HK : Shut (∀ a w, _ → K a w) := hK
      clear hK ho
      have HS := Lib.hid hs
      have HM := Lib.hid hm
      have HI := Lib.hid hi
      clear hs ha hm hi
      go_simp
      exact HK.out _ _ ⟨upd e 5 true, upd (upd t 12 _) 13 _, rfl, rfl, by rw [upd_self H4.out]; exact HS.out.put ok (i := 5) rfl, HM.out.of rfl (.inl rfl) (.inl rfl) (.inl rfl) (.inl rfl)⟩
    | 6, ho, hi, ha =>
      obtain rfl : _ = o := Option.some.inj ho
      have hi : e 6 = false := hi
      have T5 : t 13 = .pointer (some ⟨hb, 0, none⟩) := hs.val 5 rfl (ha { on := 5, ground := .data } (by simp) rfl)
      have H5 := Lib.hid T5
      refine wpOp_step (i := 6) rfl (fun K hK => ?_)
      have HK : Shut (∀ a w, _ → K a w) := hK
      clear hK ho
      have HS := Lib.hid hs
      have HM := Lib.hid hm
      have HI := Lib.hid hi
      clear hs ha hm hi
      go_simp
      exact HK.out _ _ ⟨upd e 6 true, upd (upd t 13 _) 14 _, rfl, rfl, by rw [upd_self H5.out]; exact HS.out.put ok (i := 6) rfl, HM.out.of rfl (.inl rfl) (.inl rfl) (.inl rfl) (.inl rfl)⟩
    | 7, ho, hi, ha =>
      obtain rfl : _ = o := Option.some.inj ho
      have hi : e 7 = false := hi
      have T6 : t 14 = .pointer (some ⟨hb, 0, none⟩) := hs.val 6 rfl (ha { on := 6, ground := .data } (by simp) rfl)
      have H6 := Lib.hid T6
      obtain ⟨_, F⟩ := hm.st (.inr (.inl hi))
      obtain ⟨k0, k1, k2, k3, k4, q0, q1, q2, q3, f0, f1, f2, f3⟩ := F.cs
      clear F
      refine wpOp_step (i := 7) rfl (fun K hK => ?_)
      have HK : Shut (∀ a w, _ → K a w) := hK
      clear hK ho
      have HS := Lib.hid hs
      have HM := Lib.hid hm
      have HI := Lib.hid hi
      clear hs ha hm hi
      go_simp
      exact HK.out _ _ ⟨upd e 7 true, upd (upd t 14 _) 15 _, rfl, rfl, by rw [upd_self H6.out]; exact HS.out.put ok (i := 7) rfl, HM.out.of rfl (.inl rfl) (.inr rfl) (.inl rfl) (.inl rfl)⟩
    | 8, ho, hi, ha =>
      obtain rfl : _ = o := Option.some.inj ho
      have hi : e 8 = false := hi
      have T7 : t 15 = .slice (some ⟨g, 0, none⟩) n c := hs.val 7 rfl (ha { on := 7, ground := .data } (by simp) rfl)
      have H7 := Lib.hid T7
      obtain ⟨_, F⟩ := hm.st (.inr (.inr (.inl hi)))
      have FB := Lib.hid F.be
      clear F
      refine wpOp_step (i := 8) rfl (fun K hK => ?_)
      have HK : Shut (∀ a w, _ → K a w) := hK
      clear hK ho
      have HS := Lib.hid hs
      have HM := Lib.hid hm
      have HI := Lib.hid hi
      clear hs ha hm hi
      go_simp
      (with_reducible refine (HLA.out _ FB.out).mono ?_)
      rintro e' w' ⟨rfl, m⟩
      go_wp2_with fail
      exact HK.out _ _ ⟨upd e 8 true, upd (upd t 15 _) 16 _, rfl, rfl, by rw [upd_self H7.out]; exact HS.out.put ok (i := 8) rfl, HM.out.call HI.out m.below⟩
    | 9, ho, hi, ha =>
      obtain rfl : _ = o := Option.some.inj ho
      have hi : e 9 = false := hi
      have T3 : t 11 = .slice (some ⟨g, 0, none⟩) n c := hs.val 3 rfl (ha { on := 3, ground := .data } (by simp) rfl)
      have H3 := Lib.hid T3
      have T8 : t 16 = .int .i64 (m : Int) := hs.val 8 rfl (ha { on := 8, ground := .data } (by simp) rfl)
      have H8 := Lib.hid T8
      refine wpOp_step (i := 9) rfl (fun K hK => ?_)
      have HK : Shut (∀ a w, _ → K a w) := hK
      clear hK ho
      have HS := Lib.hid hs
      have HM := Lib.hid hm
      have HI := Lib.hid hi
      clear hs ha hm hi
      go_simp
      exact HK.out _ _ ⟨upd e 9 true, upd (upd (upd t 11 _) 16 _) 17 _, rfl, rfl, by rw [upd_self H3.out, upd_self H8.out]; exact HS.out.put ok (i := 9) rfl, HM.out.of rfl (.inl rfl) (.inl rfl) (.inl rfl) (.inl rfl)⟩
    | 10, ho, hi, ha =>
      obtain rfl : _ = o := Option.some.inj ho
      have hi : e 10 = false := hi
      have T9 : t 17 = .pointer (some ⟨g, m * 4, none⟩) := hs.val 9 rfl (ha { on := 9, ground := .data } (by simp) rfl)
      have H9 := Lib.hid T9
      obtain ⟨_, F⟩ := hm.st (.inr (.inr (.inr (.inl hi))))
      obtain ⟨k0, k1, k2, k3, k4, q0, q1, q2, q3, f0, f1, f2, f3⟩ := F.cs
      clear F
      refine wpOp_step (i := 10) rfl (fun K hK => ?_)
      have HK : Shut (∀ a w, _ → K a w) := hK
      clear hK ho
      have HS := Lib.hid hs
      have HM := Lib.hid hm
      have HI := Lib.hid hi
      clear hs ha hm hi
      go_simp
      exact HK.out _ _ ⟨upd e 10 true, upd (upd t 17 _) 18 _, rfl, rfl, by rw [upd_self H9.out]; exact HS.out.put ok (i := 10) rfl, HM.out.of rfl (.inl rfl) (.inl rfl) (.inl rfl) (.inr rfl)⟩
    | 11, ho, hi, ha =>
      obtain rfl : _ = o := Option.some.inj ho
      have hi : e 11 = false := hi
      have T10 : t 18 = .agg #[.int .i64 x.b, .int .i64 x.d, .int .i64 x.s, .int .i64 x.i] := hs.val 10 rfl (ha { on := 10, ground := .data } (by simp) rfl)
      have H10 := Lib.hid T10
      obtain ⟨_, F⟩ := hm.st (.inr (.inr (.inr (.inr hi))))
      obtain ⟨k0, k1, k2, k3, k4, q0, q1, q2, q3, f0, f1, f2, f3⟩ := F.cs
      clear F
      have e3 := Lib.hid (ha { on := 3, ground := .phase } (by simp) rfl)
      have e7 := Lib.hid (ha { on := 7, ground := .phase } (by simp) rfl)
      have e8 := Lib.hid (ha { on := 8, ground := .phase } (by simp) rfl)
      have e10 := Lib.hid (ha { on := 10, ground := .phase } (by simp) rfl)
      refine wpOp_step (i := 11) rfl (fun K hK => ?_)
      have HK : Shut (∀ a w, _ → K a w) := hK
      clear hK ho
      have HS := Lib.hid hs
      have HM := Lib.hid hm
      have HI := Lib.hid hi
      clear hs ha hm hi
      go_simp
      exact HK.out _ _ ⟨upd e 11 true, (upd t 18 _), rfl, rfl, by rw [upd_self H10.out]; exact HS.out.skip (i := 11) rfl, HM.out.store HI.out e3.out e7.out e8.out e10.out⟩
    | 12, ho, hi, ha =>
      obtain rfl : _ = o := Option.some.inj ho
      have hi : e 12 = false := hi
      refine wpOp_step (i := 12) rfl (fun K hK => ?_)
      have HK : Shut (∀ a w, _ → K a w) := hK
      clear hK ho
      have HS := Lib.hid hs
      have HM := Lib.hid hm
      have HI := Lib.hid hi
      clear hs ha hm hi
      go_simp
      exact HK.out _ _ ⟨upd e 12 true, upd t 3 _, rfl, rfl, by exact HS.out.put ok (i := 12) rfl, HM.out.of rfl (.inl rfl) (.inl rfl) (.inl rfl) (.inl rfl)⟩
    | k + 13, ho, hi, ha => simp at ho
  case done =>
    rintro lq_ a wr ⟨e, t, rfl, rfl, hs, hm⟩ hr
    have hd := ready_done hr rfl (by decide +kernel)
    obtain ⟨wn, F, rfl⟩ := hm.b (hd 11 (by decide))
    have e12 : t 3 = .bool true := hs.val 12 rfl (hd 12 (by decide))
    clear hs hm hd hr
    obtain ⟨_, _, _, _, _, q0, q1, q2, q3, f0, f1, f2, f3⟩ := F.cs
    have HB := Lib.hid F.be
    clear F
    go_wp2
    exact bodyPost_ret (v := .tuple #[entV x, .bool true]) (by simp [results, Try.results114, go_sem, entV, q0, q1, q2, q3, e12]) rfl ⟨rfl, below_set4 HB.out (Nat.le_refl _) _ _ _ _⟩
end Go.Proofs.Ytiighhcilgjebaa
