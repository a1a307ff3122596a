/-
  What copied, With, Without do.
-/
import Derived.Test.YtooehfjappckmaaDoorNextWalks2
import Derived.Test.YtooehfjappckmaaDoorShelf
import Derived.Laws.BitsAllLaws
namespace Go.Proofs.YtooehfjappckmaaDoor
set_option maxRecDepth 100000
open Go.RowKit

/-- A row of words of the call's own, at block g, with room. -/
def OwnC (w : World) (base g N cap : Nat) (D : List Nat) : Prop := w.ownsRow base 52 1 (.slice (some ⟨g, 0, none⟩) N cap) N (D.map cellU)
theorem OwnC.get {w : World} {base g N cap j : Nat} {D : List Nat} (h : OwnC w base g N cap D) (hj : j < N) :
    w.cell? ⟨g, j, none⟩ = some (.int .u64 ((D.getD j 0 : Nat) : Int)) := by
  have hl : D.length = N := by have := h.1; simpa using this
  rw [World.ownsRow.cellAt h j (by omega)]
  simp [cellU, List.getD_eq_getElem?_getD, hl, hj]
theorem OwnC.put {w : World} {base g N cap : Nat} {D : List Nat} {z : Int} (h : OwnC w base g N cap D) (j v : Nat) (hz : z = (v : Int)) :
    OwnC (w.setCell ⟨g, j, none⟩ (.int .u64 z)) base g N cap (D.set j v) := by
  subst hz; unfold OwnC; rw [List.map_set]; exact (World.ownsRow.stored h j (cellU v)).1
theorem OwnC.frozen {w : World} {base g N cap : Nat} {D : List Nat} (h : OwnC w base g N cap D) (j : Nat) : w.frozen? ⟨g, j, none⟩ = false := World.ownsRow.frozenAt h j
theorem OwnC.len {w : World} {base g N cap : Nat} {D : List Nat} (h : OwnC w base g N cap D) : D.length = N := by have := h.1; simpa using this
theorem OwnC.lt {w : World} {base g N cap : Nat} {D : List Nat} (h : OwnC w base g N cap D) : base ≤ g ∧ g < w.heap.size := World.ownsRow.lt h g rfl
theorem OwnC.max {w : World} {base g N cap : Nat} {D : List Nat} (h : OwnC w base g N cap D) : N ≤ cap ∧ cap ≤ maxLen := by
  obtain ⟨_, ⟨h2, _⟩ | ⟨g', cap', cur, h2, _, _, h5, h6, _⟩⟩ := h
  · cases h2
  · injection h2 with e1 e2 e3
    subst e3
    exact ⟨h5, h6⟩
theorem OwnC.kept {w w' : World} {base g N cap : Nat} {D : List Nat} (h : OwnC w base g N cap D) (hb : w'.heap[g]? = w.heap[g]?) : OwnC w' base g N cap D := by
  obtain ⟨h1, ⟨h2, h3⟩ | ⟨g', cap', cur, h2, h3, h4, h5⟩⟩ := h
  · cases h2
  · injection h2 with e1 e2 e3
    injection e1 with e1
    injection e1 with e1
    subst e1
    exact ⟨h1, .inr ⟨_, cap', cur, by rw [e3], h3, by rw [hb]; exact h4, h5⟩⟩
theorem OwnC.next {w w' : World} {base g N cap : Nat} {D : List Nat} (h : OwnC w base g N cap D) (hb : Below w.heap.size w w') : OwnC w' base g N cap D := h.kept (hb.block g h.lt.2)
theorem OwnC.words {w : World} {base g N cap : Nat} {D : List Nat} {p : Nat → Bool} (h : OwnC w base g N cap D) (hD : ∀ k, k < N → D.getD k 0 = wd p k) : WordsAt w (some ⟨g, 0, none⟩) cap N p :=
  .inr ⟨g, rfl, h.lt.2, h.max.1, h.max.2, fun k hk => by rw [h.get hk, hD k hk]⟩
theorem OwnC.of {w : World} {base N : Nat} {v : Value} {D : List Nat} (h : w.ownsRow base 52 1 v N (D.map cellU)) (hN : 0 < N) : ∃ g cap, v = .slice (some ⟨g, 0, none⟩) N cap ∧ OwnC w base g N cap D := by
  have h0 := h
  obtain ⟨h1, ⟨h2, h3⟩ | ⟨g, cap, cur, h2, h3, h4, h5⟩⟩ := h
  · omega
  · subst h2; exact ⟨g, cap, rfl, h0⟩

theorem OwnC.le {w : World} {base base' g N cap : Nat} {D : List Nat} (h : OwnC w base g N cap D) (hb : base' ≤ base) : OwnC w base' g N cap D := by
  obtain ⟨h1, h2 | ⟨g, cap, cur, h2, h3, h4⟩⟩ := h
  · exact ⟨h1, .inl h2⟩
  · exact ⟨h1, .inr ⟨g, cap, cur, h2, by omega, h4⟩⟩

/-- The words of a set. -/
def wds (p : Nat → Bool) (N : Nat) : List Nat := (List.range N).map (wd p)
theorem wds_len (p : Nat → Bool) (N : Nat) : (wds p N).length = N := by simp [wds]
theorem wds_get (p : Nat → Bool) {N k : Nat} (h : k < N) : (wds p N).getD k 0 = wd p k := by simp [wds, List.getD_eq_getElem?_getD, h]

theorem clone_any (b N cap : Nat) (p : Nat → Bool) (hN : 0 < N) (h64 : N ≤ 64) (w : World) (h : WordsAt w (some ⟨b, 0, none⟩) cap N p) :
    Calls Tryd.prog 54 #[.slice (some ⟨b, 0, none⟩) N cap] w fun e w' => ∃ g c, e = .returned (.slice (some ⟨g, 0, none⟩) N c) ∧ OwnC w' w.heap.size g N c (wds p N) ∧ Below w.heap.size w w' := by
  obtain ⟨i0, hi, hz0, hz1, hz2⟩ := info_parts infoU
  have C := Tryd.slices_Clone i0 (.int .u64 0) 1 8 hi hz0 hz1 hz2 rfl (by omega) Tryd.sizeOf52 b 0 N cap ((wds p N).map cellU) w (by simp [wds]) (by unfold maxLen; omega) (by omega)
    (fun j u hj => by
      rw [List.getElem?_map] at hj
      obtain ⟨d, hd, rfl⟩ := Option.map_eq_some_iff.1 hj
      obtain ⟨hjl, hd⟩ := List.getElem?_eq_some_iff.1 hd
      rw [wds_len] at hjl
      obtain ⟨b', e, _, hc⟩ := h.at hjl
      injection e with e
      injection e with e
      subst e
      rw [Nat.zero_add, hc, ← hd]
      simp [wds, cellU]) (fun u hu => by
      obtain ⟨d, _, rfl⟩ := List.mem_map.1 hu
      rfl)
  refine C.mono ?_
  rintro e w' ⟨v, rfl, hv, _, hb⟩
  obtain ⟨g, c, rfl, hO⟩ := OwnC.of hv hN
  exact ⟨g, c, rfl, hO, hb⟩

set_option maxHeartbeats 1000000 in
theorem copied_any (n b cap : Nat) (p : Nat → Bool) (hn : 0 < n) (w : World) (h : SetAt w n p (some ⟨b, 0, none⟩) cap) :
    Calls Tryd.prog 41 #[.agg #[.int .i64 n, .slice (some ⟨b, 0, none⟩) (nw n) cap]] w fun e w' => ∃ g c, e = .returned (.agg #[.int .i64 n, .slice (some ⟨g, 0, none⟩) (nw n) c]) ∧ OwnC w' w.heap.size g (nw n) c (wds p (nw n)) ∧ Below w.heap.size w w' := by
  obtain ⟨hle, hout, hw⟩ := h
  have hN := nw_le hle
  have hN0 : 0 < nw n := by unfold nw; omega
  have CL := fun W hW => clone_any b (nw n) cap p hN0 hN W hW
  have hW2 := Lib.hid (hw.below ((one_below w (.cells #[.int .i64 n, .slice (some ⟨b, 0, none⟩) (nw n) cap] 25)).trans ((one_below (w.alloc (.cells #[.int .i64 n, .slice (some ⟨b, 0, none⟩) (nw n) cap] 25)) (.cells #[.int .i64 0, .slice none 0 0] 25)).mono (by simp))))
  have B2 : Below w.heap.size w ((w.alloc (.cells #[.int .i64 n, .slice (some ⟨b, 0, none⟩) (nw n) cap] 25)).alloc (.cells #[.int .i64 0, .slice none 0 0] 25)) := (one_below _ _).trans ((one_below _ _).mono (by simp))
  have HB2 := Lib.hid B2
  have HX : Hid (SBox w.heap.size (.int .i64 n) (.slice (some ⟨b, 0, none⟩) (nw n) cap) ((w.alloc (.cells #[.int .i64 n, .slice (some ⟨b, 0, none⟩) (nw n) cap] 25)).alloc (.cells #[.int .i64 0, .slice none 0 0] 25))) := (sbox_new _ _ _ _).next (one_below _ _)
  have HY : Hid (SBox (w.heap.size + 1) (.int .i64 0) (.slice none 0 0) ((w.alloc (.cells #[.int .i64 n, .slice (some ⟨b, 0, none⟩) (nw n) cap] 25)).alloc (.cells #[.int .i64 0, .slice none 0 0] 25))) := by
    have := sbox_new (w.alloc (.cells #[.int .i64 n, .slice (some ⟨b, 0, none⟩) (nw n) cap] 25)) (.int .i64 0) (.slice none 0 0) 25
    rw [World.size_alloc] at this
    exact this
  clear hw hout B2
  go_enter Tryd.func41, Tryd.ntmps41
  go_wp2
  go_region_with (first
    | (go_at_call 54; (with_reducible refine (CL _ ?_).mono ?_); (exact hW2.out); rintro e w1 ⟨g, c, rfl, O1, b1⟩; have X1 := Lib.hid (HX.out.drew.next b1); have Y1 := Lib.hid (HY.out.drew.next b1); obtain ⟨x0, x1, x2, x3, x4⟩ := X1.out; obtain ⟨y0, y1, y2, y3, y4⟩ := Y1.out))
  all_goals
    have h1 := O1.lt.1
    have hs : ((w.alloc (.cells #[.int .i64 n, .slice (some ⟨b, 0, none⟩) (nw n) cap] 25)).alloc (.cells #[.int .i64 0, .slice none 0 0] 25)).drew.heap.size = w.heap.size + 2 := by show ((w.alloc _).alloc _).heap.size = _; simp
    rw [hs] at h1
    have hO := Lib.hid (OwnC.le O1 (show w.heap.size ≤ _ by rw [hs]; omega))
    have hB := Lib.hid (HB2.out.drew.trans (b1.mono (show w.heap.size ≤ _ by rw [hs]; omega)))
    have hb1 := b1.size
    rw [hs] at hb1
    clear O1 b1 hs CL hW2 HB2 HX HY X1
    go_wp2
    refine bodyPost_ret (v := .agg #[.int .i64 n, .slice (some ⟨g, 0, none⟩) (nw n) c]) (by simp [results, Tryd.results41, go_sem, y0, y1]) rfl ⟨g, c, rfl, ?_, store_below hB.out (by omega) _ _⟩
    exact OwnC.kept (w := w1) hO.out (heap_store _ _ _ (by omega))
theorem with_word {p : Nat → Bool} {n m : Nat} (hm : m < n) : ∀ k, k < nw n → ((wds p (nw n)).set (m / 64) (wd p (m / 64) ||| 2 ^ (m % 64))).getD k 0 = wd (put n p m true) k := by
  intro k hk
  rw [List.getD_eq_getElem?_getD]
  by_cases e : k = m / 64
  · subst e
    rw [List.getElem?_set_self (by rw [wds_len]; exact hk), Option.getD_some]
    refine wd_eq (Nat.or_lt_two_pow (n := 64) (wd_lt _ _) (Nat.pow_lt_pow_right (by omega) (by omega))) fun j hj => ?_
    rw [Nat.testBit_or, wd_bit, Nat.testBit_two_pow]
    unfold put
    by_cases hjm : m % 64 = j
    · rw [if_pos (by omega)]; simp [hjm]
    · rw [if_neg (by omega)]; simp [hj, hjm]
  · rw [List.getElem?_set_ne (by omega), ← List.getD_eq_getElem?_getD, wds_get p hk]
    refine wd_congr fun j hj => ?_
    unfold put
    rw [if_neg (by omega)]
theorem without_word {p : Nat → Bool} {n m : Nat} (hm : m < n) : ∀ k, k < nw n → ((wds p (nw n)).set (m / 64) (wd p (m / 64) &&& (18446744073709551615 - 2 ^ (m % 64)))).getD k 0 = wd (put n p m false) k := by
  intro k hk
  rw [List.getD_eq_getElem?_getD]
  by_cases e : k = m / 64
  · subst e
    rw [List.getElem?_set_self (by rw [wds_len]; exact hk), Option.getD_some]
    refine wd_eq (Nat.lt_of_le_of_lt Nat.and_le_left (wd_lt _ _)) fun j hj => ?_
    have hp : (2 : Nat) ^ (m % 64) < 2 ^ 64 := Nat.pow_lt_pow_right (by omega) (by omega)
    rw [Nat.testBit_and, wd_bit, show 18446744073709551615 - 2 ^ (m % 64) = 2 ^ 64 - (2 ^ (m % 64) + 1) by omega, Nat.testBit_two_pow_sub_succ hp, Nat.testBit_two_pow]
    unfold put
    by_cases hjm : m % 64 = j
    · rw [if_pos (by omega)]; simp [hjm]
    · rw [if_neg (by omega)]; simp [hj, hjm]
  · rw [List.getElem?_set_ne (by omega), ← List.getD_eq_getElem?_getD, wds_get p hk]
    refine wd_congr fun j hj => ?_
    unfold put
    rw [if_neg (by omega)]
theorem hlt_cell {n m : Nat} {p : Nat → Bool} {x : Option Addr} {cap : Nat} {w : World} (h : SetAt w n p x cap) (hm : m < n) : ∃ b, x = some ⟨b, 0, none⟩ ∧ b < w.heap.size := by
  obtain ⟨b, h1, h2, _⟩ := h.words.at (nw_at hm)
  exact ⟨b, h1, h2⟩

set_option maxHeartbeats 2000000 in
theorem with_any (n : Nat) (x : Option Addr) (cap : Nat) (p : Nat → Bool) (i : Int) (w : World) (h : SetAt w n p x cap) :
    Calls Tryd.prog 17 #[.agg #[.int .i64 n, .slice x (nw n) cap], .int .i64 i] w fun e w' => (∃ x' c', e = .returned (.agg #[.int .i64 n, .slice x' (nw n) c']) ∧ SetAt w' n (put n p i true) x' c') ∧ Below w.heap.size w w' := by
  have H := holds_any n (.slice x (nw n) cap) i
  have hX : SBox w.heap.size (.int .i64 n) (.slice x (nw n) cap) ((w.alloc (.cells #[.int .i64 n, .slice x (nw n) cap] 25)).alloc (.cells #[.int .i64 0, .slice none 0 0] 25)) := (sbox_new _ _ _ _).next (one_below _ _)
  have hY : SBox (w.heap.size + 1) (.int .i64 0) (.slice none 0 0) ((w.alloc (.cells #[.int .i64 n, .slice x (nw n) cap] 25)).alloc (.cells #[.int .i64 0, .slice none 0 0] 25)) := by
    have := sbox_new (w.alloc (.cells #[.int .i64 n, .slice x (nw n) cap] 25)) (.int .i64 0) (.slice none 0 0) 25
    rw [World.size_alloc] at this
    exact this
  have B2 : Below w.heap.size w ((w.alloc (.cells #[.int .i64 n, .slice x (nw n) cap] 25)).alloc (.cells #[.int .i64 0, .slice none 0 0] 25)) := on (one_below _ _) (one_below _ _)
  have HX := Lib.hid hX
  have HY := Lib.hid hY
  have HB2 := Lib.hid B2
  clear hX hY B2
  by_cases hi : 0 ≤ i ∧ i < n
  · rw [decide_eq_true hi] at H
    obtain ⟨h0, h1⟩ := hi
    obtain ⟨m, rfl⟩ := Int.eq_ofNat_of_zero_le h0
    have hmn : m < n := by omega
    obtain ⟨b, rfl, hb⟩ := hlt_cell h hmn
    have hle := h.le
    have hout := h.out
    have hN := nw_le hle
    have hk : m / 64 < nw n := nw_at hmn
    have CP := fun W hW => copied_any n b cap p (by omega) W hW
    have hu := wd_lt p (m / 64)
    have hp : (2 : Nat) ^ (m % 64) < 18446744073709551616 := Nat.pow_lt_pow_right (n := 64) (by omega) (by omega)
    have FW := Lib.hid (with_word (p := p) hmn)
    have ha := bits_or_u64_nat (wd p (m / 64)) (2 ^ (m % 64)) hu hp
    have hg := wds_get p hk
    have e1 : ((m : Nat) : Int) / 64 = ((m / 64 : Nat) : Int) := by omega
    have e2 : ((m : Nat) : Int) % 64 = ((m % 64 : Nat) : Int) := by omega
    have e3 : IntKind.u64.wrap ((2 : Int) ^ (m % 64)) = ((2 ^ (m % 64) : Nat) : Int) := by
      rw [IntKind.wrap_u64, show (2 : Int) ^ (m % 64) = ((2 ^ (m % 64) : Nat) : Int) by simp]; exact Int.emod_eq_of_lt (Int.natCast_nonneg _) (Int.ofNat_lt.2 hp)
    have hj : m % 64 < 64 := by omega
    generalize wd p (m / 64) ||| 2 ^ (m % 64) = v at *
    generalize wd p (m / 64) = u at *
    generalize 2 ^ (m % 64) = P at *
    generalize m / 64 = k at *
    generalize m % 64 = j at *
    have HS := Lib.hid h
    have Hle := Lib.hid hle
    have Hout := Lib.hid hout
    clear h hle hout hp h0 h1
    go_enter Tryd.func17, Tryd.ntmps17
    go_wp2_with fail
    with_reducible refine (H _).mono ?_
    rintro e w1 ⟨rfl, b1⟩
    have X1 := HX.out.next b1
    have Y1 := Lib.hid (HY.out.next b1)
    have B1 := Lib.hid (on HB2.out b1)
    have S1 := Lib.hid (HS.out.below B1.out)
    obtain ⟨x0, x1, x2, x3, x4⟩ := X1
    clear HX HY HB2 b1 HS H
    go_wp2_with fail
    with_reducible refine (CP _ S1.out).mono ?_
    rintro e w2 ⟨g, c, rfl, O2, b2⟩
    have Y2 := Lib.hid (Y1.out.next b2)
    have B2 := Lib.hid (on B1.out b2)
    have hgl := O2.lt
    have hw1 := B1.out.size
    have hY1 := Y1.out.size
    obtain ⟨hc1, hc2⟩ := O2.max
    unfold maxLen at hc2
    have hne : w2.heap.size ≠ g := by omega
    have O3 := O2.next (one_below w2 (.cells #[.int .i64 n, .slice (some ⟨g, 0, none⟩) (nw n) c] 25))
    have hc := O3.get hk
    rw [hg] at hc
    have hf := O3.frozen k
    have es : (w2.setCell ⟨g, k, none⟩ (.int .u64 (v : Int))).heap.size = w2.heap.size := by simp [World.setCell]
    have T4 := sbox_new (w2.setCell ⟨g, k, none⟩ (.int .u64 (v : Int))) (.int .i64 n) (.slice (some ⟨g, 0, none⟩) (nw n) c) 25
    rw [es] at T4
    have HT4 := Lib.hid T4.drew
    have HY4 := Lib.hid ((Y2.out.other (g := g) (j := k) (z := .int .u64 (v : Int)) (by omega)).next (one_below _ (.cells #[.int .i64 n, .slice (some ⟨g, 0, none⟩) (nw n) c] 25))).drew
    have HO4 := Lib.hid (OwnC.kept (w' := ((w2.setCell ⟨g, k, none⟩ (.int .u64 (v : Int))).alloc (.cells #[.int .i64 n, .slice (some ⟨g, 0, none⟩) (nw n) c] 25)).drew) ((O2.put k v rfl).next (one_below _ _)) rfl)
    have HB4 := Lib.hid ((B2.out.setCell (p := ⟨g, k, none⟩) (show w.heap.size ≤ g by omega) (.int .u64 (v : Int))).alloc (by rw [es]; have := B2.out.size; omega) (.cells #[.int .i64 n, .slice (some ⟨g, 0, none⟩) (nw n) c] 25)).drew
    have HG := Lib.hid hgl
    clear x0 x1 x2 x3 x4 b2 O2 O3 S1 CP hg Y1 Y2 B1 B2 T4 es
    go_wp2
    go_region
    all_goals
      generalize ((w2.setCell ⟨g, k, none⟩ (.int .u64 (v : Int))).alloc (.cells #[.int .i64 n, .slice (some ⟨g, 0, none⟩) (nw n) c] 25)).drew = W4 at *
      obtain ⟨t0, t1, t2, t3, t4⟩ := HT4.out
      obtain ⟨y0, y1, y2, y3, y4⟩ := HY4.out
      clear hc hf
      go_wp2
      refine bodyPost_ret (v := .agg #[.int .i64 n, .slice (some ⟨g, 0, none⟩) (nw n) c]) (by simp [results, Tryd.results17, go_sem, y0, y1]) rfl ⟨⟨_, _, rfl, Hle.out, put_out Hout.out _ _, ?_⟩, store_below HB4.out (by omega) _ _⟩
      exact (OwnC.kept HO4.out (heap_store _ _ _ (by omega))).words FW.out
  · rw [decide_eq_false hi] at H
    rw [put_beyond (by omega)]
    have HS := Lib.hid h
    clear h hi
    go_enter Tryd.func17, Tryd.ntmps17
    go_wp2_with fail
    with_reducible refine (H _).mono ?_
    rintro e w1 ⟨rfl, b1⟩
    have X1 := HX.out.next b1
    have Y1 := HY.out.next b1
    have B1 := Lib.hid (on HB2.out b1)
    obtain ⟨x0, x1, x2, x3, x4⟩ := X1
    obtain ⟨y0, y1, y2, y3, y4⟩ := Y1
    clear HX HY HB2 b1 H
    go_wp2
    exact bodyPost_ret (v := .agg #[.int .i64 n, .slice x (nw n) cap]) (by simp [results, Tryd.results17, go_sem, y0, y1]) rfl ⟨⟨x, cap, rfl, HS.out.below (store_below B1.out (by omega) _ _)⟩, store_below B1.out (by omega) _ _⟩
end Go.Proofs.YtooehfjappckmaaDoor
