/-
  DeheapMakes (layer 7, P7.1): which kinds and capacities may be, and that of a nil heap nothing is told: for every three integers the law returns true. No condition.
-/
import Derived.Test.YtiighhcilgjebaaHeapFrame
namespace Go.Proofs.Ytiighhcilgjebaa.deheapMakes
open Go.Proofs.Ytiighhcilgjebaa
set_option maxRecDepth 100000
open Go.RowKit Go.Sort

theorem flat_made (N : Nat) : madeCells #[.int .i64 0, .int .i64 0, .int .i64 0, .int .i64 0] (N * 4) = (flatE (List.replicate N zeroE)).toArray := by
  apply Array.ext_getElem?
  intro j
  have e0 : (flatE (List.replicate N zeroE)).toArray[j]? = (flatE (List.replicate N zeroE))[j]? := by simp
  rw [e0]
  by_cases hj : j < N * 4
  · rw [flatE_get (by rw [List.length_replicate]; exact hj)]
    have e : (List.replicate N zeroE).toArray[j / 4]! = zeroE := by
      rw [getElem!_pos _ _ (by simp; omega)]
      simp
    rw [e]
    unfold madeCells
    rw [Array.getElem?_map, Array.getElem?_range, if_pos hj]
    have : j % 4 = 0 ∨ j % 4 = 1 ∨ j % 4 = 2 ∨ j % 4 = 3 := by omega
    show some ((#[Value.int .i64 0, Value.int .i64 0, Value.int .i64 0, Value.int .i64 0] : Array Value)[j % 4]!) = _
    rcases this with h | h | h | h <;> rw [h] <;> rfl
  · rw [Array.getElem?_eq_none (by rw [made_size]; omega), List.getElem?_eq_none (by rw [flatE_length, List.length_replicate]; omega)]
theorem listAt_block {w : World} {g : Nat} {l : List En} {c : Array Value} {t : TypeId} {f : Nat × Nat} (h : w.heap[g]? = some (.cells c t f)) (hc : c = (flatE l).toArray) : ListAt w g l := by
  subst hc
  refine ⟨(Array.getElem?_eq_some_iff.1 h).1, fun j v hj => ?_⟩
  rw [cell_of h]
  simpa using hj
/-- The two numbers of a list. -/
def two (a b : Int) : Nat → Int
  | 0 => a
  | _ => b
theorem two_cell {w : World} {g : Nat} {t : TypeId} {a b : Int} (h : w.heap[g]? = some (.cells #[.int .i64 a, .int .i64 b] t (0, 0))) (k : Nat) (hk : k < 2) : w.cell? ⟨g, k, none⟩ = some (.int .i64 (two a b k)) := by
  rw [cell_of h]
  match k, hk with
  | 0, _ => rfl
  | 1, _ => rfl
/-- What Bulk and New answer of one kind and capacity. -/
theorem ways (k m : Int) (N : Nat) : (k < 0 ∨ 2 ≤ k) ∨ (∃ b, k = kN b ∧ (m < 1 ∨ 1048576 < m)) ∨ (∃ b, k = kN b ∧ 1 ≤ m ∧ m ≤ 1048576 ∧ m < (N : Int)) ∨ (∃ b, k = kN b ∧ 1 ≤ m ∧ m ≤ 1048576 ∧ (N : Int) ≤ m) := by
  by_cases h : k < 0 ∨ 2 ≤ k
  · exact .inl h
  · obtain ⟨b, hb⟩ : ∃ b, k = kN b := by
      rcases (show k = 0 ∨ k = 1 by omega) with h | h
      · exact ⟨false, h⟩
      · exact ⟨true, h⟩
    by_cases h2 : m < 1 ∨ 1048576 < m
    · exact .inr (.inl ⟨b, hb, h2⟩)
    · by_cases h3 : m < (N : Int)
      · exact .inr (.inr (.inl ⟨b, hb, by omega, by omega, h3⟩))
      · exact .inr (.inr (.inr ⟨b, hb, by omega, by omega, by omega⟩))
set_option maxHeartbeats 20000000 in
theorem walk (kind most n : Int) (w : World) : Calls Try.prog 4 #[.int .i64 kind, .int .i64 most, .int .i64 n] w fun e w' => e = .returned (.bool true) ∧ Below w.heap.size w w' := by
  obtain ⟨i0, hi, hz0, hz1, hz2⟩ := info_parts' infoE
  obtain ⟨N, hN, hN2⟩ : ∃ N : Nat, max 0 n % 20 = (N : Int) ∧ N < 20 := ⟨(max 0 n % 20).toNat, by omega, by omega⟩
  have hmk : ∀ W, (Instr.makeSlice 25 (.int .i64 (N : Int)) (.int .i64 (N : Int))).run Try.prog W = .ok (.slice (some ⟨W.heap.size, 0, none⟩) N N) (W.alloc (.cells (flatE (List.replicate N zeroE)).toArray 32)) := by
    intro W
    have := run_make (P := Try.prog) W 25 32 i0 _ Try.underlying25 hi hz0 .i64 .i64 (N : Int) (N : Int) (by omega) (by omega) (by rw [hz2]; omega) (by omega)
    rw [hz1] at this
    rw [← flat_made]
    simpa [Value.cells] using this
  obtain ⟨m2, hm2⟩ : ∃ m2 : Int, max 0 most % 30 = m2 := ⟨_, rfl⟩
  obtain ⟨k2, hk2⟩ : ∃ k2 : Int, max 0 kind % 3 = k2 := ⟨_, rfl⟩
  have HB0 : Hid (Below w.heap.size w (w.alloc (.cells #[.int .i64 most, .int .i64 m2] 3))) := (Below.refl _ _).alloc (Nat.le_refl _) _
  have HN0 := Lib.hid (heap_alloc_new w (.cells #[.int .i64 most, .int .i64 m2] 3))
  clear hi hz0 hz1 hz2
  have HNN := Lib.hid hN
  have HM2 := Lib.hid hm2
  have HK2 := Lib.hid hk2
  clear hN
  go_enter Try.func4, Try.ntmps4
  go_wp2
  rw [HNN.out, HM2.out]
  clear hm2
  go_loopw [30] (fun i wr => ∃ a : Nat, a ≤ 2 ∧ i = .int .i64 (a : Int) ∧ Below w.heap.size w wr ∧ wr.heap[w.heap.size]? = some (.cells #[.int .i64 most, .int .i64 m2] 3 (0, 0))) (fun i _ => 2 - (intOf i).toNat)
  case atStart => exact ⟨0, by omega, rfl, HB0.out, HN0.out⟩
  case round =>
    obtain ⟨a, ha, rfl, hbe, hnb⟩ := hrel
    have HBE := Lib.hid hbe
    have HNB := Lib.hid hnb
    clear hbe hnb
    by_cases hlt : a < 2
    · have cm := two_cell HNB.out a hlt
      obtain ⟨m, hm⟩ : ∃ m, two most m2 a = m := ⟨_, rfl⟩
      rw [hm] at cm
      clear hm
      obtain ⟨wO, hwO⟩ : ∃ x, x = wr := ⟨wr, rfl⟩
      subst hwO
      have HB1 : Hid (Below w.heap.size w (wO.alloc (.cells #[.int .i64 kind, .int .i64 k2] 3))) := HBE.out.alloc HBE.out.size _
      have HN1 := Lib.hid (heap_alloc_new wO (.cells #[.int .i64 kind, .int .i64 k2] 3))
      have HN2 : Hid ((wO.alloc (.cells #[.int .i64 kind, .int .i64 k2] 3)).heap[w.heap.size]? = some (.cells #[.int .i64 most, .int .i64 m2] 3 (0, 0))) := by
        have hl := (Array.getElem?_eq_some_iff.1 HNB.out).1
        exact (((Below.refl wO.heap.size wO).alloc (Nat.le_refl _) _).block _ hl).trans HNB.out
      have HW := Lib.hid HBE.out.size
      clear HBE HNB
      have t1 : decide ((a : Int) < 2) = true := decide_eq_true (by omega)
      go_wp2
      rw [HK2.out]
      clear t1
      go_loopw [40] (fun i wr => ∃ c : Nat, c ≤ 2 ∧ i = .int .i64 (c : Int) ∧ Below w.heap.size w wr ∧ wr.heap[w.heap.size]? = some (.cells #[.int .i64 most, .int .i64 m2] 3 (0, 0)) ∧ wr.heap[wO.heap.size]? = some (.cells #[.int .i64 kind, .int .i64 k2] 3 (0, 0))) (fun i _ => 2 - (intOf i).toNat)
      case atStart => exact ⟨0, by omega, rfl, HB1.out, HN2.out, HN1.out⟩
      case round =>
        obtain ⟨c, hc, rfl, hbe, hnb, hnc⟩ := hrel
        have HBE := Lib.hid hbe
        have HNB := Lib.hid hnb
        have HNC := Lib.hid hnc
        clear hbe hnb hnc
        by_cases hlt2 : c < 2
        · have ck := two_cell HNC.out c hlt2
          obtain ⟨k, hk⟩ : ∃ k, two kind k2 c = k := ⟨_, rfl⟩
          rw [hk] at ck
          clear hk hk2
          have fin : Hid (∀ W, Below wr.heap.size wr W → Below w.heap.size w W ∧ W.heap[w.heap.size]? = some (.cells #[.int .i64 most, .int .i64 m2] 3 (0, 0)) ∧ W.heap[wO.heap.size]? = some (.cells #[.int .i64 kind, .int .i64 k2] 3 (0, 0))) := fun W hW =>
            ⟨HBE.out.trans (hW.mono HBE.out.size), (hW.block _ (Array.getElem?_eq_some_iff.1 HNB.out).1).trans HNB.out, (hW.block _ (Array.getElem?_eq_some_iff.1 HNC.out).1).trans HNC.out⟩
          have hL : Hid (∀ W : World, Lists (W.alloc (.cells (flatE (List.replicate N zeroE)).toArray 32)) (.slice (some ⟨W.heap.size, 0, none⟩) N N) (List.replicate N zeroE)) := fun W =>
            .inr ⟨W.heap.size, N, by rw [List.length_replicate], listAt_block (heap_alloc_new W _) rfl⟩
          rcases ways k m N with h | ⟨b, h, h2⟩ | ⟨b, h, h1, h2, h3⟩ | ⟨b, h, h1, h2, h3⟩
          · have hb2 : ∀ (v : Value) W, Calls Try.prog 9 #[.int .i64 k, .int .i64 m, v] W fun e w' => e = .returned (.tuple #[.pointer none, .int .i64 25]) ∧ W = w' := fun v W => bulk_kind k m v W h
            have hnw : ∀ W, Calls Try.prog 17 #[.int .i64 k, .int .i64 m] W fun e w' => e = .returned (.tuple #[.pointer none, .int .i64 25]) ∧ W = w' := fun W => new_no k m 25 W (hb2 _ W)
            rcases h with h | h
            all_goals
              by_cases hz : N = 0
              · subst hz
                rw [show ((0 : Nat) : Int) = 0 from rfl] at hmk ⊢
                go_wp2_with fail
                with_reducible refine (hb2 _ _).mono ?_
                rintro e w' ⟨rfl, rfl⟩
                clear hmk hb2
                go_wp2_with fail
                with_reducible refine (len_nilD _).mono ?_
                rintro e w' ⟨rfl, rfl⟩
                go_wp2_with fail
                with_reducible refine (hnw _).mono ?_
                rintro e w' ⟨rfl, rfl⟩
                clear hnw
                obtain ⟨f1, f2, f3⟩ := fin.out _ ((Below.refl _ _).alloc (Nat.le_refl _) (.cells (flatE []).toArray 32))
                have F1 := Lib.hid f1
                have F2 := Lib.hid f2
                have F3 := Lib.hid f3
                clear f1 f2 f3 fin hL
                go_wp2
                go_roundw
                case rel => exact ⟨c + 1, by omega, by go_num, F1.out, F2.out, F3.out⟩
                case measure => simp [intOf]; omega
              · have e0 : ((0 : Int) == (N : Int)) = false := by simp; omega
                go_wp2_with fail
                with_reducible refine (hb2 _ _).mono ?_
                rintro e w' ⟨rfl, rfl⟩
                clear hmk hb2
                go_wp2_with fail
                with_reducible refine (len_nilD _).mono ?_
                rintro e w' ⟨rfl, rfl⟩
                go_wp2_with fail
                with_reducible refine (hnw _).mono ?_
                rintro e w' ⟨rfl, rfl⟩
                clear hnw
                obtain ⟨f1, f2, f3⟩ := fin.out _ ((Below.refl _ _).alloc (Nat.le_refl _) (.cells (flatE (List.replicate N zeroE)).toArray 32))
                have F1 := Lib.hid f1
                have F2 := Lib.hid f2
                have F3 := Lib.hid f3
                clear f1 f2 f3 fin hL
                go_wp2
                go_roundw
                case rel => exact ⟨c + 1, by omega, by go_num, F1.out, F2.out, F3.out⟩
                case measure => simp [intOf]; omega
          · have hb2 : ∀ (v : Value) W, Calls Try.prog 9 #[.int .i64 k, .int .i64 m, v] W fun e w' => e = .returned (.tuple #[.pointer none, .int .i64 2]) ∧ W = w' := fun v W => bulk_arg k m v W (by rw [h]; cases b <;> decide) (by rw [h]; cases b <;> decide) h2
            have hnw : ∀ W, Calls Try.prog 17 #[.int .i64 k, .int .i64 m] W fun e w' => e = .returned (.tuple #[.pointer none, .int .i64 2]) ∧ W = w' := fun W => new_no k m 2 W (hb2 _ W)
            have q1 : ¬ k < 0 := by rw [h]; cases b <;> decide
            have q2 : ¬ 1 < k := by rw [h]; cases b <;> decide
            clear h
            rcases h2 with h2 | h2
            all_goals
              by_cases hz : N = 0
              · subst hz
                rw [show ((0 : Nat) : Int) = 0 from rfl] at hmk ⊢
                go_wp2_with fail
                with_reducible refine (hb2 _ _).mono ?_
                rintro e w' ⟨rfl, rfl⟩
                clear hmk hb2
                go_wp2_with fail
                with_reducible refine (len_nilD _).mono ?_
                rintro e w' ⟨rfl, rfl⟩
                go_wp2_with fail
                with_reducible refine (hnw _).mono ?_
                rintro e w' ⟨rfl, rfl⟩
                clear hnw
                obtain ⟨f1, f2, f3⟩ := fin.out _ ((Below.refl _ _).alloc (Nat.le_refl _) (.cells (flatE []).toArray 32))
                have F1 := Lib.hid f1
                have F2 := Lib.hid f2
                have F3 := Lib.hid f3
                clear f1 f2 f3 fin hL
                go_wp2
                go_roundw
                case rel => exact ⟨c + 1, by omega, by go_num, F1.out, F2.out, F3.out⟩
                case measure => simp [intOf]; omega
              · have e0 : ((0 : Int) == (N : Int)) = false := by simp; omega
                go_wp2_with fail
                with_reducible refine (hb2 _ _).mono ?_
                rintro e w' ⟨rfl, rfl⟩
                clear hmk hb2
                go_wp2_with fail
                with_reducible refine (len_nilD _).mono ?_
                rintro e w' ⟨rfl, rfl⟩
                go_wp2_with fail
                with_reducible refine (hnw _).mono ?_
                rintro e w' ⟨rfl, rfl⟩
                clear hnw
                obtain ⟨f1, f2, f3⟩ := fin.out _ ((Below.refl _ _).alloc (Nat.le_refl _) (.cells (flatE (List.replicate N zeroE)).toArray 32))
                have F1 := Lib.hid f1
                have F2 := Lib.hid f2
                have F3 := Lib.hid f3
                clear f1 f2 f3 fin hL
                go_wp2
                go_roundw
                case rel => exact ⟨c + 1, by omega, by go_num, F1.out, F2.out, F3.out⟩
                case measure => simp [intOf]; omega
          · have hb2 : ∀ p c W, Calls Try.prog 9 #[.int .i64 k, .int .i64 m, .slice p N c] W fun e w' => e = .returned (.tuple #[.pointer none, .int .i64 10]) ∧ W = w' := fun p c W => bulk_full k m p N c W (by rw [h]; cases b <;> decide) (by rw [h]; cases b <;> decide) h1 h2 h3
            have hnw : ∀ W, Calls Try.prog 17 #[.int .i64 k, .int .i64 m] W (BulkOk b m [] W) := fun W => by rw [h]; exact new_okD b m W h1 h2
            have q1 : ¬ k < 0 := by rw [h]; cases b <;> decide
            have q2 : ¬ 1 < k := by rw [h]; cases b <;> decide
            clear h
            have e0 : ((0 : Int) == (N : Int)) = false := by simp; omega
            go_wp2_with fail
            with_reducible refine (hb2 _ _ _).mono ?_
            rintro e w' ⟨rfl, rfl⟩
            have HB4 : Hid (Below wr.heap.size wr (wr.alloc (.cells (flatE (List.replicate N zeroE)).toArray 32))) := (Below.refl _ _).alloc (Nat.le_refl _) _
            clear hmk hb2
            go_wp2_with fail
            with_reducible refine (len_nilD _).mono ?_
            rintro e w' ⟨rfl, rfl⟩
            go_wp2_with fail
            with_reducible refine (hnw _).mono ?_
            rintro e w5 ⟨db5, rfl, hd5, be5⟩
            have R := hd5.room (by omega) h2 (by rw [srt_length]; simp)
            rw [srt_length, show m - (([] : List En).length : Int) = m by simp] at R
            have HB5 := Lib.hid (HB4.out.trans (be5.mono HB4.out.size))
            clear hd5 be5 hnw
            go_wp2_with fail
            with_reducible refine R.mono ?_
            rintro e w6 ⟨rfl, be6⟩
            obtain ⟨f1, f2, f3⟩ := fin.out _ (HB5.out.trans (be6.mono HB5.out.size))
            have F1 := Lib.hid f1
            have F2 := Lib.hid f2
            have F3 := Lib.hid f3
            clear f1 f2 f3 fin hL be6 R HB5
            go_wp2
            go_roundw
            case rel => exact ⟨c + 1, by omega, by go_num, F1.out, F2.out, F3.out⟩
            case measure => simp [intOf]; omega
          · have hb2 : ∀ W : World, Calls Try.prog 9 #[.int .i64 k, .int .i64 m, .slice (some ⟨W.heap.size, 0, none⟩) N N] (W.alloc (.cells (flatE (List.replicate N zeroE)).toArray 32)) (BulkOk b m (List.replicate N zeroE) (W.alloc (.cells (flatE (List.replicate N zeroE)).toArray 32))) := fun W => by rw [h]; exact bulk_ok b m _ _ _ h1 h2 (by simp; omega) (by simp; exact h3) (hL.out W)
            have hnw : ∀ W, Calls Try.prog 17 #[.int .i64 k, .int .i64 m] W (BulkOk b m [] W) := fun W => by rw [h]; exact new_okD b m W h1 h2
            have q1 : ¬ k < 0 := by rw [h]; cases b <;> decide
            have q2 : ¬ 1 < k := by rw [h]; cases b <;> decide
            clear h
            go_wp2_with fail
            with_reducible refine (hb2 _).mono ?_
            rintro e w4 ⟨db4, rfl, hd4, be4⟩
            have L := hd4.len
            rw [srt_length, List.length_replicate] at L
            have B4 : Below wr.heap.size wr (wr.alloc (.cells (flatE (List.replicate N zeroE)).toArray 32)) := (Below.refl _ _).alloc (Nat.le_refl _) _
            have HB4 := Lib.hid (B4.trans (be4.mono B4.size))
            clear hmk hb2 hd4 be4 B4
            go_wp2_with fail
            with_reducible refine L.mono ?_
            rintro e w' ⟨rfl, rfl⟩
            clear L
            go_wp2_with fail
            with_reducible refine (hnw _).mono ?_
            rintro e w5 ⟨db5, rfl, hd5, be5⟩
            have R := hd5.room (by omega) h2 (by rw [srt_length]; simp)
            rw [srt_length, show m - (([] : List En).length : Int) = m by simp] at R
            have HB5 := Lib.hid (HB4.out.trans (be5.mono HB4.out.size))
            clear hd5 be5 hnw
            go_wp2_with fail
            with_reducible refine R.mono ?_
            rintro e w6 ⟨rfl, be6⟩
            obtain ⟨f1, f2, f3⟩ := fin.out _ (HB5.out.trans (be6.mono HB5.out.size))
            have F1 := Lib.hid f1
            have F2 := Lib.hid f2
            have F3 := Lib.hid f3
            clear f1 f2 f3 fin hL be6 R HB5
            go_wp2
            go_roundw
            case rel => exact ⟨c + 1, by omega, by go_num, F1.out, F2.out, F3.out⟩
            case measure => simp [intOf]; omega
        · obtain rfl : c = 2 := by omega
          have HA : Hid (Below w.heap.size w wr) := HBE
          rw [show ((2 : Nat) : Int) = 2 from rfl]
          clear HBE
          go_wp2
          go_roundw
          case rel => exact ⟨a + 1, by omega, by go_num, HA.out, HNB.out⟩
          case measure => simp [intOf]; omega
    · obtain rfl : a = 2 := by omega
      rw [show ((2 : Nat) : Int) = 2 from rfl]
      have MN := minD_nil
      have MX := popMaxD_nil
      unfold Told zeroE entV at MN MX
      have PN := pushD_nil zeroE
      unfold zeroE entV at PN
      clear hmk hk2 HNB
      go_wp2_with fail
      with_reducible refine (MN _).mono ?_
      rintro e w1 ⟨rfl, be1⟩
      have HB1 := Lib.hid ((HBE.out.trans (be1.mono HBE.out.size)).alloc (Nat.le_trans HBE.out.size be1.size) (.cells #[.int .i64 0, .int .i64 0, .int .i64 0, .int .i64 0] 32))
      clear be1 HBE MN
      go_wp2_with fail
      with_reducible refine (MX _).mono ?_
      rintro e w2 ⟨rfl, be2⟩
      have hB2 := HB1.out.trans (be2.mono HB1.out.size)
      have HB2 := Lib.hid (hB2.alloc hB2.size (.cells #[.int .i64 0, .int .i64 0, .int .i64 0, .int .i64 0] 32))
      clear be2 HB1 MX hB2
      go_wp2_with fail
      with_reducible refine (wakes_any _).mono ?_
      rintro e w3 ⟨rfl, be3⟩
      have HB3 := Lib.hid (HB2.out.trans (be3.mono HB2.out.size))
      clear be3 HB2
      go_wp2_with fail
      with_reducible refine (len_nilD _).mono ?_
      rintro e w' ⟨rfl, rfl⟩
      go_wp2_with fail
      with_reducible refine (PN _).mono ?_
      rintro e w4 ⟨rfl, be4⟩
      have HB4 := Lib.hid (HB3.out.trans (be4.mono HB3.out.size))
      clear be4 HB3 PN
      go_wp2_with fail
      with_reducible refine (evict_nil _ _).mono ?_
      rintro e w' ⟨rfl, rfl⟩
      go_wp2_with fail
      with_reducible refine (drop_nil _ _).mono ?_
      rintro e w5 ⟨rfl, be5⟩
      have HB5 := Lib.hid (HB4.out.trans (be5.mono HB4.out.size))
      clear be5 HB4
      go_wp2_with fail
      with_reducible refine (sorted_nil _).mono ?_
      rintro e w' ⟨rfl, rfl⟩
      go_wp2_with fail
      with_reducible refine (room_nil _).mono ?_
      rintro e w' ⟨rfl, rfl⟩
      go_wp2
      go_ret
      exact ⟨rfl, HB5.out⟩
/-! ### the row -/
open Go.ChangeShapes Go.WideShapes Go.ChangeAt
set_option maxRecDepth 100000 in
theorem lifted (os : Os) (started : os.Started) (H : Type) (enc : TypeId × Value → H) :
    ReturnsInHanded {} Try.checked os 4 .any (Rows.deheapMakesSpec.pre6 enc Try.prog Try.f4 Rows.deheapMakesRow.domain false) (Rows.deheapMakesSpec.post enc Try.prog Try.f4 false true false false) := by
  refine returnsInHanded_of_change (C := Try.checked) own started (by kernel_rfl) Try.func4
    (ChangeSpec.witness6 (enc := enc) (C := Try.checked) false ⟨#[], #[.int .i64 0, .int .i64 0, .int .i64 0], []⟩ 8 (by kernel_rfl) (by kernel_rfl) (by kernel_rfl) (by kernel_rfl)) ?_
  intro W base args ds gs before hval0 hW hcnd _
  have hval : ∀ (j : Nat) t v, Try.f4.params[j]? = some t → args[j]? = some v → Value.okWide Try.prog W .any base t v := hval0
  have hW' := hW
  obtain ⟨p, q, hA0, hV, rfl, hfz, hnd⟩ := hW
  have hA : DataW.TrodAll enc Try.prog W 0 (fun _ => true) true Try.f4.params.toList args.toList ds p := hA0
  rw [Try.params4] at hA hval
  obtain ⟨v0, vs0, d0, ds0, p0, q0, hargs, rfl, rfl, h0, r0⟩ := trodAll_cons hA
  obtain ⟨v1, vs1, d1, ds1, p1, q1, rfl, rfl, rfl, h1, r1⟩ := trodAll_cons r0
  obtain ⟨v2, vs2, d2, ds2, p2, q2, rfl, rfl, rfl, h2, r2⟩ := trodAll_cons r1
  obtain ⟨rfl, rfl, rfl⟩ := trodAll_nil r2
  obtain rfl : args = #[v0, v1, v2] := by cases args; simp_all
  obtain ⟨rfl, rfl⟩ := trodVars_none hV
  have k0 := h0
  have lt0 : ∀ x ∈ p0, x.block < W.heap.size := by obtain ⟨m, hm⟩ := k0; exact DataW.trod_lt m _ _ _ hm
  obtain ⟨a0, rfl, _⟩ := open_int Try.underlying3 (hval 0 3 v0 rfl rfl) h0
  have k1 := h1
  have lt1 : ∀ x ∈ p1, x.block < W.heap.size := by obtain ⟨m, hm⟩ := k1; exact DataW.trod_lt m _ _ _ hm
  obtain ⟨a1, rfl, _⟩ := open_int Try.underlying3 (hval 1 3 v1 rfl rfl) h1
  have k2 := h2
  have lt2 : ∀ x ∈ p2, x.block < W.heap.size := by obtain ⟨m, hm⟩ := k2; exact DataW.trod_lt m _ _ _ hm
  obtain ⟨a2, rfl, _⟩ := open_int Try.underlying3 (hval 2 3 v2 rfl rfl) h2
  clear hA0 hval0
  refine (walk a0 a1 a2 W ).mono fun e W' ⟨he, bel⟩ => ?_
  subst he
  exact ⟨_, rfl, _, _, _, [], _, [], hW', trodAll_mk1 (shut_bool Try.underlying4 _), (trodAll_cons_mk (Below.trod laidOut (by kernel_rfl) (of_decide_eq_true (by kernel_rfl)) k0 bel lt0) (trodAll_cons_mk (Below.trod laidOut (by kernel_rfl) (of_decide_eq_true (by kernel_rfl)) k1 bel lt1) (trodAll_cons_mk (Below.trod laidOut (by kernel_rfl) (of_decide_eq_true (by kernel_rfl)) k2 bel lt2) trodAll_mk0))), rfl, bel.frame _, fun h => by cases h⟩

theorem over : Rows.deheapMakesRow.holds Try.pinned (OpenSpec.ofChange Rows.deheapMakesSpec) :=
  OpenClaim.holds_of_wide 4 Try.f4 rfl rfl rfl rfl rfl rfl rfl ⟨rfl, rfl, rfl, rfl, rfl⟩ rfl rfl rfl rfl rfl (by kernel_rfl) Try.func4 (by kernel_rfl)
    (of_decide_eq_true (by kernel_rfl)) (by unfold Func.isWrapper; first | (rw [if_pos (by decide +kernel)]; kernel_rfl) | (rw [if_neg (by decide +kernel)]; exact ⟨rfl, rfl⟩))
    (fun os started H enc _ => lifted os started H enc)

end Go.Proofs.Ytiighhcilgjebaa.deheapMakes
namespace Go.Proofs.Ytiighhcilgjebaa
theorem deheapMakes_holds : Rows.DeheapMakesSaid := deheapMakes.over
#print axioms deheapMakes_holds
end Go.Proofs.Ytiighhcilgjebaa
