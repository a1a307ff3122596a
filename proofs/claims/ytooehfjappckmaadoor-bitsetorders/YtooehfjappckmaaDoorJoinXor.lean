/-
  What Xor does, and join with its closure.
-/
import Derived.Test.YtooehfjappckmaaDoorJoinMath
namespace Go.Proofs.YtooehfjappckmaaDoor
set_option maxRecDepth 100000
open Go.RowKit

theorem xor_clo (u v : Nat) (hu : u < 18446744073709551616) (hv : v < 18446744073709551616) (w : World) :
    Calls Tryd.prog 48 #[.int .u64 (u : Int), .int .u64 (v : Int)] w fun e w' => e = .returned (.int .u64 ((u ^^^ v : Nat) : Int)) ∧ w' = w := by
  have ha := bits_xor_u64_nat u v hu hv
  generalize u ^^^ v = z at *
  go_enter Tryd.func48, Tryd.ntmps48
  go_wp2
  go_ret
  exact ⟨rfl, rfl⟩

/-- Xor's numbers. -/
def xorP (n : Nat) (p q : Nat → Bool) : Nat → Bool := fun i => decide (i < n) && ((p i ^^ q i))

set_option maxHeartbeats 4000000 in
theorem join_xor (n m : Nat) (p q : Nat → Bool) (x y : Option Addr) (c d : Nat) (w : World) (h1 : SetAt w n p x c) (h2 : SetAt w m q y d) :
    Calls Tryd.prog 42 #[.agg #[.int .i64 n, .slice x (nw n) c], .agg #[.int .i64 m, .slice y (nw m) d], Value.func (.func 48) #[] #[]] w fun e w' => (∃ s t, e = .returned (.agg #[.int .i64 n, .slice s (nw n) t]) ∧ SetAt w' n (xorP n p q) s t) ∧ Below w.heap.size w w' := by
  have hn := h1.le
  have hN := nw_le hn
  have hM := nw_le h2.le
  have E := empty_any n hn
  have W2 := fun W (hW : SetAt W m q y d) k => word_any (.int .i64 m) y d (nw m) q k W hW.words (fun hk => wd_out hW.out hk)
  have CL := fun k W => xor_clo (wd p k) (wd q k) (wd_lt _ _) (wd_lt _ _) W
  simp only [← wd_xor] at CL
  have B3 : Below w.heap.size w (((w.alloc (.cells #[.int .i64 n, .slice x (nw n) c] 25)).alloc (.cells #[.int .i64 m, .slice y (nw m) d] 25)).alloc (.cells #[.int .i64 0, .slice none 0 0] 25)) := on (on (one_below _ _) (one_below _ _)) (one_below _ _)
  have X := ((sbox_new w (.int .i64 n) (.slice x (nw n) c) 25).next (one_below _ (.cells #[.int .i64 m, .slice y (nw m) d] 25))).next (one_below _ (.cells #[.int .i64 0, .slice none 0 0] 25))
  have Y := (sbox_new (w.alloc (.cells #[.int .i64 n, .slice x (nw n) c] 25)) (.int .i64 m) (.slice y (nw m) d) 25).next (one_below _ (.cells #[.int .i64 0, .slice none 0 0] 25))
  have R := sbox_new ((w.alloc (.cells #[.int .i64 n, .slice x (nw n) c] 25)).alloc (.cells #[.int .i64 m, .slice y (nw m) d] 25)) (.int .i64 0) (.slice none 0 0) 25
  simp only [World.size_alloc] at Y R
  have HX := Lib.hid X
  have HY := Lib.hid Y
  have HR := Lib.hid R
  have HB3 := Lib.hid B3
  have H1 := Lib.hid h1
  have H2 := Lib.hid h2
  have Hn := Lib.hid hn
  clear h1 h2 hn B3 X Y R
  go_enter Tryd.func42, Tryd.ntmps42
  go_wp2_with fail
  with_reducible refine (E _).mono ?_
  rintro e w1 ⟨rfl, O, b1⟩
  simp only [World.size_alloc] at O
  have HX := Lib.hid (HX.out.next b1)
  have HY := Lib.hid (HY.out.next b1)
  have HR := Lib.hid (HR.out.next b1)
  have HB1 := Lib.hid (on HB3.out b1)
  simp only [World.size_alloc]
  generalize hg : w.heap.size + 1 + 1 + 1 + 1 = g at O ⊢
  have hgl := O.lt
  have hh : w.heap.size + 3 < g := by omega
  have HO := Lib.hid O
  clear O b1 E hg HB3
  obtain ⟨x0, x1, x2, x3, x4⟩ := HX.out
  go_wp2
  clear x0 x1 x2 x3 x4
  go_loopw [16] (fun i wr => ∃ (k : Nat) (D : List Nat), k ≤ nw n ∧ i = .int .i64 k ∧ OwnW wr g g (nw n) D ∧ (∀ j, j < k → D.getD j 0 = wd (fun i => (p i ^^ q i)) j) ∧ SBox w1.heap.size (.int .i64 n) (.slice (some ⟨g, 0, none⟩) (nw n) (nw n)) wr ∧ SBox (w.heap.size + 1) (.int .i64 m) (.slice y (nw m) d) wr ∧ SBox (w.heap.size + 1 + 1) (.int .i64 0) (.slice none 0 0) wr ∧ Below w.heap.size w wr) (fun i _ => nw n - (intOf i).toNat)
  case atStart => exact ⟨0, _, by omega, rfl, HO.out.next (one_below _ _), fun j hj => by omega, sbox_new _ _ _ _, HY.out.next (one_below _ _), HR.out.next (one_below _ _), on HB1.out (one_below _ _)⟩
  case round =>
    obtain ⟨k, D, hk, rfl, hO, hD, hT, hY, hR, hB⟩ := hrel
    clear HO HX HY HR HB1
    have hol := hO.lt
    have hlen := hO.len
    have hT4 := hT.size
    by_cases hlt : k < nw n
    · obtain ⟨bx, rfl, hbx, hcx⟩ := (H1.out.words.below hB).at hlt
      have hc := hO.get hlt
      have hf := World.frozenAt' hO k
      generalize D.getD k 0 = d0 at hc
      have WO := W2 wr.drew (H2.out.below hB.drew) k
      have CLk := CL k
      generalize wd p k = u at *
      have HL := Lib.hid hlen
      have HO := Lib.hid hO
      have HD := Lib.hid hD
      have HT := Lib.hid hT
      have HY := Lib.hid hY
      have HR := Lib.hid hR
      have HB := Lib.hid hB
      obtain ⟨t0, t1, t2, t3, t4⟩ := hT
      obtain ⟨y0, y1, y2, y3, y4⟩ := hY
      clear hO hD hR hB hlen CL W2
      go_wp2
      go_region_with (first
        | (go_at_call 46; (with_reducible refine WO.mono ?_); rintro e w2 ⟨rfl, b2⟩; have T2 := Lib.hid (HT.out.drew.next b2); have O2 := Lib.hid (OwnW.next (OwnW.kept (w' := wr.drew) HO.out rfl) b2); have d2 := O2.out.get hlt; have f2 := World.frozenAt' O2.out k; obtain ⟨z0, z1, z2, z3, z4⟩ := T2.out)
        | (go_at_call 48; (with_reducible refine (CLk _).mono ?_); rintro e w3 ⟨rfl, rfl⟩))
      all_goals
        have HY := Lib.hid (HY.out.drew.next b2)
        have HR := Lib.hid (HR.out.drew.next b2)
        have HB := Lib.hid (on HB.out.drew b2)
        clear b2 z0 z1 z2 z3 z4 d2 f2 hc hf t0 t1 t2 t3 t4 y0 y1 y2 y3 y4 HT HO
        go_wp2
        go_roundw
        case rel =>
          refine ⟨k + 1, D.set k (wd (fun i => (p i ^^ q i)) k), by omega, by go_num, O2.out.put k _ rfl, fun j hj => ?_, T2.out.other (by omega), HY.out.other (by omega), HR.out.other (by omega), HB.out.setCell (by show w.heap.size ≤ g; omega) _⟩
          have := HL.out
          rw [List.getD_eq_getElem?_getD]
          by_cases e : j = k
          · subst e; rw [List.getElem?_set_self (by omega)]; rfl
          · rw [List.getElem?_set_ne (by omega), ← List.getD_eq_getElem?_getD]; exact HD.out j (by omega)
        case measure => simp [intOf]; omega
    · obtain rfl : k = nw n := by omega
      have hDl : ∀ j, j < nw n → D.getD j 0 < 18446744073709551616 := fun j hj => by rw [hD j hj]; exact wd_lt _ _
      have FW := Lib.hid (cut_is hlen hD)
      have CU := cut_any n g g D Hn.out hDl wr hO
      have HT := Lib.hid hT
      have HR := Lib.hid hR
      have HB := Lib.hid hB
      obtain ⟨t0, t1, t2, t3, t4⟩ := hT
      clear hO hD hR hB hlen hDl hY CL W2
      go_wp2_with fail
      with_reducible refine CU.mono ?_
      rintro e w2 ⟨rfl, O2, g2⟩
      have T2 := HT.out.grown g2 (by omega)
      have R2 := HR.out.grown g2 (by omega)
      have B2 := HB.out.grown g2 (by have := HB.out.size; omega) (fun k hk => by injection hk with hk; omega)
      have HO2 := Lib.hid O2
      have HB2 := Lib.hid B2
      obtain ⟨t0, t1, t2, t3, t4⟩ := T2
      obtain ⟨r0, r1, r2, r3, r4⟩ := R2
      clear O2 B2 g2 HT HR HB CU
      go_wp2
      refine bodyPost_ret (v := .agg #[.int .i64 n, .slice (some ⟨g, 0, none⟩) (nw n) (nw n)]) (by simp [results, Tryd.results42, go_sem, r0, r1]) rfl ⟨⟨_, _, rfl, Hn.out, fun i hi => by unfold xorP; rw [decide_eq_false (by omega)]; rfl, ?_⟩, store_below HB2.out (by omega) _ _⟩
      exact (HO2.out.kept (heap_store _ _ _ (by omega))).words FW.out

theorem xor_any (n m : Nat) (p q : Nat → Bool) (x y : Option Addr) (c d : Nat) (w : World) (h1 : SetAt w n p x c) (h2 : SetAt w m q y d) :
    Calls Tryd.prog 30 #[.agg #[.int .i64 n, .slice x (nw n) c], .agg #[.int .i64 m, .slice y (nw m) d]] w fun e w' => (∃ s t, e = .returned (.agg #[.int .i64 n, .slice s (nw n) t]) ∧ SetAt w' n (xorP n p q) s t) ∧ Below w.heap.size w w' := by
  have B3 : Below w.heap.size w (((w.alloc (.cells #[.int .i64 n, .slice x (nw n) c] 25)).alloc (.cells #[.int .i64 m, .slice y (nw m) d] 25)).alloc (.cells #[.int .i64 0, .slice none 0 0] 25)) := on (on (one_below _ _) (one_below _ _)) (one_below _ _)
  have R := sbox_new ((w.alloc (.cells #[.int .i64 n, .slice x (nw n) c] 25)).alloc (.cells #[.int .i64 m, .slice y (nw m) d] 25)) (.int .i64 0) (.slice none 0 0) 25
  simp only [World.size_alloc] at R
  have J := join_xor n m p q x y c d _ (h1.below B3) (h2.below B3)
  have HR := Lib.hid R
  have HB3 := Lib.hid B3
  clear h1 h2 R B3
  go_enter Tryd.func30, Tryd.ntmps30
  go_wp2_with fail
  with_reducible refine J.mono ?_
  rintro e w1 ⟨⟨s, t, rfl, S⟩, b1⟩
  have HB := Lib.hid (on HB3.out b1)
  have HS := Lib.hid S
  obtain ⟨r0, r1, r2, r3, r4⟩ := HR.out.next b1
  clear b1 S J HR HB3
  go_wp2
  exact bodyPost_ret (v := .agg #[.int .i64 n, .slice s (nw n) t]) (by simp [results, Tryd.results30, go_sem, r0, r1]) rfl ⟨⟨s, t, rfl, SetAt.stored HS.out r0⟩, store_below HB.out (by omega) _ _⟩
end Go.Proofs.YtooehfjappckmaaDoor
