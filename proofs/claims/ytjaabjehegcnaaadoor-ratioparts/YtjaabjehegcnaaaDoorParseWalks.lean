/-
  What package ratio's Parse does at every text.
-/
import Derived.Test.YtjaabjehegcnaaaDoorTextWalks
namespace Go.Proofs.YtjaabjehegcnaaaDoor
set_option maxRecDepth 100000
open Go.RowKit

/-- A number, and an error or none. -/
def IsAny (w : World) (e : Ending) (w' : World) : Prop := ∃ (u : Int) (ev : Value), I64 u ∧ e = .returned (.tuple #[.int .i64 u, ev]) ∧ Below w.heap.size w w'
theorem pint_any (s : ByteArray) (hs : s.size ≤ 281474976710656) (w : World) (hL : LibOk w) :
    Calls Tryd.prog 56 #[.string s, .int .i64 10, .int .i64 64] w (IsAny w) := by
  by_cases h : ∃ v, Lib.parseIntB 64 s.data.toList = .ok v
  · obtain ⟨v, hv⟩ := h
    refine (pint_ok s hs v hv w).mono ?_
    rintro e w' ⟨rfl, hb⟩
    have := Lib.parseIntB_bounds hv
    exact ⟨v, _, by unfold I64; omega, rfl, hb⟩
  · refine (pint_no s hs (fun v hv => h ⟨v, hv⟩) w hL).mono ?_
    rintro e w' ⟨u, N, hu, rfl, hb⟩
    exact ⟨u, _, hu, rfl, hb⟩

theorem text_ba (n d : Int) : ∃ A : ByteArray, strV (txt n d) = .string A ∧ A.data.toList = txt n d := ⟨⟨(txt n d).toArray⟩, rfl, by simp⟩

set_option maxHeartbeats 2000000 in
theorem parse_miss_eq (s : ByteArray) (hs : s.size ≤ 281474976710656) (h : Lib.indexByte s.data.toList 47 = -1) (n d : Int) (hn : I64 n) (hd : I64 d) (hp : Lib.parseIntB 64 s.data.toList = .ok n) (hq : Lib.parseIntB 64 (⟨#[49]⟩ : ByteArray).data.toList = .ok d) (ht : txt n d = s.data.toList) (w : World) (hL : LibOk w) :
    Calls Tryd.prog 29 #[.string s] w fun e w' => e = .returned (.tuple #[.agg #[.int .i64 n, .int .i64 d], .int .i64 0]) ∧ Below w.heap.size w w' := by
  have C := cut_miss s h
  have P := pint_ok s hs n hp
  have Q := pint_ok (⟨#[49]⟩ : ByteArray) (by decide) d hq
  have T := text_any n d hn hd
  obtain ⟨X, eX, hX⟩ := text_ba n d
  rw [eX] at T
  obtain rfl : s = X := ByteArray.ext (Array.toList_inj.1 (hX.trans ht).symm)
  clear hp hq ht eX hX
  clear h
  go_enter Tryd.func29, Tryd.ntmps29
  go_wp2_with fail
  with_reducible refine (C _).mono ?_
  rintro e w1 ⟨rfl, b1⟩
  have R1 := (rbox_new w 0 0 _).next b1
  have B1 : Below w.heap.size w w1 := on (new_below w _) b1
  have L1 := hL.below B1
  clear b1 hL
  go_wp2_with fail
  with_reducible refine (P _).mono ?_
  rintro e w2 ⟨rfl, b2⟩
  have R2 := R1.next b2
  have B2 := on B1 b2
  have L2 := L1.below b2
  clear b2 R1 B1 L1
  go_wp2_with fail
  with_reducible refine (Q _).mono ?_
  rintro e w3 ⟨rfl, b3⟩
  have R3 := R2.next b3
  have B3 := on B2 b3
  have L3 := L2.below b3
  clear b3 R2 B2 L2
  have b4 := new_below w3 (.cells #[.int .i64 n, .int .i64 d] 23)
  have R4 := R3.next b4
  have B4 := on B3 b4
  have L4 := L3.below b4
  have Q4 := rbox_new w3 n d 23
  have z3 := B3.size
  have z4 : w.heap.size < w3.heap.size := R3.size
  clear b4 R3 B3 L3
  go_wp2_with fail
  with_reducible refine (T _ L4.tab).mono ?_
  rintro e w5 ⟨rfl, b5⟩
  obtain ⟨c0, c1, f0, f1, hz⟩ := R4.next b5
  obtain ⟨d0, d1, g0, g1, hy⟩ := Q4.next b5
  have B5 := on B4 b5
  clear b5 R4 Q4 B4 L4
  go_wp2
  exact bodyPost_ret (v := .tuple #[.agg #[.int .i64 n, .int .i64 d], .int .i64 0]) (by simp [results, Tryd.results29, go_sem, c0, c1]) rfl ⟨rfl, (B5.setCell (Nat.le_refl _) _).setCell (Nat.le_refl _) _⟩

set_option maxHeartbeats 2000000 in
theorem parse_miss_ne (s : ByteArray) (hs : s.size ≤ 281474976710656) (h : Lib.indexByte s.data.toList 47 = -1) (n d : Int) (hn : I64 n) (hd : I64 d) (hp : Lib.parseIntB 64 s.data.toList = .ok n) (hq : Lib.parseIntB 64 (⟨#[49]⟩ : ByteArray).data.toList = .ok d) (ht : txt n d ≠ s.data.toList) (w : World) (hL : LibOk w) :
    Calls Tryd.prog 29 #[.string s] w fun e w' => e = .returned (.tuple #[.agg #[.int .i64 0, .int .i64 0], .int .i64 4]) ∧ Below w.heap.size w w' := by
  have C := cut_miss s h
  have P := pint_ok s hs n hp
  have Q := pint_ok (⟨#[49]⟩ : ByteArray) (by decide) d hq
  have T := text_any n d hn hd
  obtain ⟨X, eX, hX⟩ := text_ba n d
  rw [eX] at T
  have hne : (X.toList == s.toList) = false := by
    rw [Lib.toList_data, Lib.toList_data, hX]
    simpa using ht
  clear hp hq ht eX hX
  clear h
  go_enter Tryd.func29, Tryd.ntmps29
  go_wp2_with fail
  with_reducible refine (C _).mono ?_
  rintro e w1 ⟨rfl, b1⟩
  have R1 := (rbox_new w 0 0 _).next b1
  have B1 : Below w.heap.size w w1 := on (new_below w _) b1
  have L1 := hL.below B1
  clear b1 hL
  go_wp2_with fail
  with_reducible refine (P _).mono ?_
  rintro e w2 ⟨rfl, b2⟩
  have R2 := R1.next b2
  have B2 := on B1 b2
  have L2 := L1.below b2
  clear b2 R1 B1 L1
  go_wp2_with fail
  with_reducible refine (Q _).mono ?_
  rintro e w3 ⟨rfl, b3⟩
  have R3 := R2.next b3
  have B3 := on B2 b3
  have L3 := L2.below b3
  clear b3 R2 B2 L2
  have b4 := new_below w3 (.cells #[.int .i64 n, .int .i64 d] 23)
  have R4 := R3.next b4
  have B4 := on B3 b4
  have L4 := L3.below b4
  have Q4 := rbox_new w3 n d 23
  have z3 := B3.size
  have z4 : w.heap.size < w3.heap.size := R3.size
  clear b4 R3 B3 L3
  go_wp2_with fail
  with_reducible refine (T _ L4.tab).mono ?_
  rintro e w5 ⟨rfl, b5⟩
  obtain ⟨c0, c1, f0, f1, hz⟩ := R4.next b5
  obtain ⟨d0, d1, g0, g1, hy⟩ := Q4.next b5
  have B5 := on B4 b5
  clear b5 R4 Q4 B4 L4
  go_wp2
  exact bodyPost_ret (v := .tuple #[.agg #[.int .i64 0, .int .i64 0], .int .i64 4]) (by simp [results, Tryd.results29, go_sem, c0, c1]) rfl ⟨rfl, (B5.setCell (Nat.le_refl _) _).setCell (Nat.le_refl _) _⟩

set_option maxHeartbeats 2000000 in
theorem parse_miss_bot (s : ByteArray) (hs : s.size ≤ 281474976710656) (h : Lib.indexByte s.data.toList 47 = -1) (n : Int) (hp : Lib.parseIntB 64 s.data.toList = .ok n) (hq : ∀ v, Lib.parseIntB 64 (⟨#[49]⟩ : ByteArray).data.toList ≠ .ok v) (w : World) (hL : LibOk w) :
    Calls Tryd.prog 29 #[.string s] w fun e w' => e = .returned (.tuple #[.agg #[.int .i64 0, .int .i64 0], .int .i64 4]) ∧ Below w.heap.size w w' := by
  have C := cut_miss s h
  have P := pint_ok s hs n hp
  have Q := pint_no (⟨#[49]⟩ : ByteArray) (by decide) hq
  clear hp hq
  clear h
  go_enter Tryd.func29, Tryd.ntmps29
  go_wp2_with fail
  with_reducible refine (C _).mono ?_
  rintro e w1 ⟨rfl, b1⟩
  have R1 := (rbox_new w 0 0 _).next b1
  have B1 : Below w.heap.size w w1 := on (new_below w _) b1
  have L1 := hL.below B1
  clear b1 hL
  go_wp2_with fail
  with_reducible refine (P _).mono ?_
  rintro e w2 ⟨rfl, b2⟩
  have R2 := R1.next b2
  have B2 := on B1 b2
  have L2 := L1.below b2
  clear b2 R1 B1 L1
  go_wp2_with fail
  with_reducible refine (Q _ L2).mono ?_
  rintro e w3 ⟨v, N, hv, rfl, b3⟩
  have R3 := R2.next b3
  have B3 := on B2 b3
  have L3 := L2.below b3
  clear b3 R2 B2 L2
  obtain ⟨c0, c1, f0, f1, hz⟩ := R3
  go_wp2
  exact bodyPost_ret (v := .tuple #[.agg #[.int .i64 0, .int .i64 0], .int .i64 4]) (by simp [results, Tryd.results29, go_sem, c0, c1, hz]) rfl ⟨rfl, ((B3.setCell (Nat.le_refl _) _).setCell (Nat.le_refl _) _).alloc (by simp [World.setCell]; omega) _⟩

set_option maxHeartbeats 2000000 in
theorem parse_miss_top (s : ByteArray) (hs : s.size ≤ 281474976710656) (h : Lib.indexByte s.data.toList 47 = -1) (hp : ∀ v, Lib.parseIntB 64 s.data.toList ≠ .ok v) (w : World) (hL : LibOk w) :
    Calls Tryd.prog 29 #[.string s] w fun e w' => e = .returned (.tuple #[.agg #[.int .i64 0, .int .i64 0], .int .i64 4]) ∧ Below w.heap.size w w' := by
  have C := cut_miss s h
  have P := pint_no s hs hp
  have Q := pint_any (⟨#[49]⟩ : ByteArray) (by decide)
  clear hp
  clear h
  go_enter Tryd.func29, Tryd.ntmps29
  go_wp2_with fail
  with_reducible refine (C _).mono ?_
  rintro e w1 ⟨rfl, b1⟩
  have R1 := (rbox_new w 0 0 _).next b1
  have B1 : Below w.heap.size w w1 := on (new_below w _) b1
  have L1 := hL.below B1
  clear b1 hL
  go_wp2_with fail
  with_reducible refine (P _ L1).mono ?_
  rintro e w2 ⟨u, N, hu, rfl, b2⟩
  have R2 := R1.next b2
  have B2 := on B1 b2
  have L2 := L1.below b2
  clear b2 R1 B1 L1
  go_wp2_with fail
  with_reducible refine (Q _ L2).mono ?_
  rintro e w3 ⟨v, ev, hv, rfl, b3⟩
  have R3 := R2.next b3
  have B3 := on B2 b3
  have L3 := L2.below b3
  clear b3 R2 B2 L2
  obtain ⟨c0, c1, f0, f1, hz⟩ := R3
  go_wp2
  exact bodyPost_ret (v := .tuple #[.agg #[.int .i64 0, .int .i64 0], .int .i64 4]) (by simp [results, Tryd.results29, go_sem, c0, c1, hz]) rfl ⟨rfl, ((B3.setCell (Nat.le_refl _) _).setCell (Nat.le_refl _) _).alloc (by simp [World.setCell]; omega) _⟩

set_option maxHeartbeats 2000000 in
theorem parse_hit_eq (s : ByteArray) (hs : s.size ≤ 281474976710656) (i : Nat) (h : Lib.indexByte s.data.toList 47 = (i : Int)) (hi : i + 1 ≤ s.size) (n d : Int) (hn : I64 n) (hd : I64 d) (hp : Lib.parseIntB 64 (s.extract 0 i).data.toList = .ok n) (hq : Lib.parseIntB 64 (s.extract (i + 1) s.size).data.toList = .ok d) (ht : txt n d = s.data.toList) (w : World) (hL : LibOk w) :
    Calls Tryd.prog 29 #[.string s] w fun e w' => e = .returned (.tuple #[.agg #[.int .i64 n, .int .i64 d], .int .i64 0]) ∧ Below w.heap.size w w' := by
  have C := cut_hit s i h hi hs
  have P := pint_ok (s.extract 0 i) (show (s.extract 0 i).size ≤ 281474976710656 by rw [ByteArray.size_extract]; omega) n hp
  have Q := pint_ok (s.extract (i + 1) s.size) (show (s.extract (i + 1) s.size).size ≤ 281474976710656 by rw [ByteArray.size_extract]; omega) d hq
  have T := text_any n d hn hd
  obtain ⟨X, eX, hX⟩ := text_ba n d
  rw [eX] at T
  obtain rfl : s = X := ByteArray.ext (Array.toList_inj.1 (hX.trans ht).symm)
  clear hp hq ht eX hX
  obtain ⟨A, hA⟩ : ∃ A, (s.extract 0 i) = A := ⟨_, rfl⟩
  obtain ⟨B, hB⟩ : ∃ B, (s.extract (i + 1) s.size) = B := ⟨_, rfl⟩
  rw [hA] at C P
  rw [hB] at C Q
  clear hA hB h hi
  go_enter Tryd.func29, Tryd.ntmps29
  go_wp2_with fail
  with_reducible refine (C _).mono ?_
  rintro e w1 ⟨rfl, b1⟩
  have R1 := (rbox_new w 0 0 _).next b1
  have B1 : Below w.heap.size w w1 := on (new_below w _) b1
  have L1 := hL.below B1
  clear b1 hL
  go_wp2_with fail
  with_reducible refine (P _).mono ?_
  rintro e w2 ⟨rfl, b2⟩
  have R2 := R1.next b2
  have B2 := on B1 b2
  have L2 := L1.below b2
  clear b2 R1 B1 L1
  go_wp2_with fail
  with_reducible refine (Q _).mono ?_
  rintro e w3 ⟨rfl, b3⟩
  have R3 := R2.next b3
  have B3 := on B2 b3
  have L3 := L2.below b3
  clear b3 R2 B2 L2
  have b4 := new_below w3 (.cells #[.int .i64 n, .int .i64 d] 23)
  have R4 := R3.next b4
  have B4 := on B3 b4
  have L4 := L3.below b4
  have Q4 := rbox_new w3 n d 23
  have z3 := B3.size
  have z4 : w.heap.size < w3.heap.size := R3.size
  clear b4 R3 B3 L3
  go_wp2_with fail
  with_reducible refine (T _ L4.tab).mono ?_
  rintro e w5 ⟨rfl, b5⟩
  obtain ⟨c0, c1, f0, f1, hz⟩ := R4.next b5
  obtain ⟨d0, d1, g0, g1, hy⟩ := Q4.next b5
  have B5 := on B4 b5
  clear b5 R4 Q4 B4 L4
  go_wp2
  exact bodyPost_ret (v := .tuple #[.agg #[.int .i64 n, .int .i64 d], .int .i64 0]) (by simp [results, Tryd.results29, go_sem, c0, c1]) rfl ⟨rfl, (B5.setCell (Nat.le_refl _) _).setCell (Nat.le_refl _) _⟩

set_option maxHeartbeats 2000000 in
theorem parse_hit_ne (s : ByteArray) (hs : s.size ≤ 281474976710656) (i : Nat) (h : Lib.indexByte s.data.toList 47 = (i : Int)) (hi : i + 1 ≤ s.size) (n d : Int) (hn : I64 n) (hd : I64 d) (hp : Lib.parseIntB 64 (s.extract 0 i).data.toList = .ok n) (hq : Lib.parseIntB 64 (s.extract (i + 1) s.size).data.toList = .ok d) (ht : txt n d ≠ s.data.toList) (w : World) (hL : LibOk w) :
    Calls Tryd.prog 29 #[.string s] w fun e w' => e = .returned (.tuple #[.agg #[.int .i64 0, .int .i64 0], .int .i64 4]) ∧ Below w.heap.size w w' := by
  have C := cut_hit s i h hi hs
  have P := pint_ok (s.extract 0 i) (show (s.extract 0 i).size ≤ 281474976710656 by rw [ByteArray.size_extract]; omega) n hp
  have Q := pint_ok (s.extract (i + 1) s.size) (show (s.extract (i + 1) s.size).size ≤ 281474976710656 by rw [ByteArray.size_extract]; omega) d hq
  have T := text_any n d hn hd
  obtain ⟨X, eX, hX⟩ := text_ba n d
  rw [eX] at T
  have hne : (X.toList == s.toList) = false := by
    rw [Lib.toList_data, Lib.toList_data, hX]
    simpa using ht
  clear hp hq ht eX hX
  obtain ⟨A, hA⟩ : ∃ A, (s.extract 0 i) = A := ⟨_, rfl⟩
  obtain ⟨B, hB⟩ : ∃ B, (s.extract (i + 1) s.size) = B := ⟨_, rfl⟩
  rw [hA] at C P
  rw [hB] at C Q
  clear hA hB h hi
  go_enter Tryd.func29, Tryd.ntmps29
  go_wp2_with fail
  with_reducible refine (C _).mono ?_
  rintro e w1 ⟨rfl, b1⟩
  have R1 := (rbox_new w 0 0 _).next b1
  have B1 : Below w.heap.size w w1 := on (new_below w _) b1
  have L1 := hL.below B1
  clear b1 hL
  go_wp2_with fail
  with_reducible refine (P _).mono ?_
  rintro e w2 ⟨rfl, b2⟩
  have R2 := R1.next b2
  have B2 := on B1 b2
  have L2 := L1.below b2
  clear b2 R1 B1 L1
  go_wp2_with fail
  with_reducible refine (Q _).mono ?_
  rintro e w3 ⟨rfl, b3⟩
  have R3 := R2.next b3
  have B3 := on B2 b3
  have L3 := L2.below b3
  clear b3 R2 B2 L2
  have b4 := new_below w3 (.cells #[.int .i64 n, .int .i64 d] 23)
  have R4 := R3.next b4
  have B4 := on B3 b4
  have L4 := L3.below b4
  have Q4 := rbox_new w3 n d 23
  have z3 := B3.size
  have z4 : w.heap.size < w3.heap.size := R3.size
  clear b4 R3 B3 L3
  go_wp2_with fail
  with_reducible refine (T _ L4.tab).mono ?_
  rintro e w5 ⟨rfl, b5⟩
  obtain ⟨c0, c1, f0, f1, hz⟩ := R4.next b5
  obtain ⟨d0, d1, g0, g1, hy⟩ := Q4.next b5
  have B5 := on B4 b5
  clear b5 R4 Q4 B4 L4
  go_wp2
  exact bodyPost_ret (v := .tuple #[.agg #[.int .i64 0, .int .i64 0], .int .i64 4]) (by simp [results, Tryd.results29, go_sem, c0, c1]) rfl ⟨rfl, (B5.setCell (Nat.le_refl _) _).setCell (Nat.le_refl _) _⟩

set_option maxHeartbeats 2000000 in
theorem parse_hit_bot (s : ByteArray) (hs : s.size ≤ 281474976710656) (i : Nat) (h : Lib.indexByte s.data.toList 47 = (i : Int)) (hi : i + 1 ≤ s.size) (n : Int) (hp : Lib.parseIntB 64 (s.extract 0 i).data.toList = .ok n) (hq : ∀ v, Lib.parseIntB 64 (s.extract (i + 1) s.size).data.toList ≠ .ok v) (w : World) (hL : LibOk w) :
    Calls Tryd.prog 29 #[.string s] w fun e w' => e = .returned (.tuple #[.agg #[.int .i64 0, .int .i64 0], .int .i64 4]) ∧ Below w.heap.size w w' := by
  have C := cut_hit s i h hi hs
  have P := pint_ok (s.extract 0 i) (show (s.extract 0 i).size ≤ 281474976710656 by rw [ByteArray.size_extract]; omega) n hp
  have Q := pint_no (s.extract (i + 1) s.size) (show (s.extract (i + 1) s.size).size ≤ 281474976710656 by rw [ByteArray.size_extract]; omega) hq
  clear hp hq
  obtain ⟨A, hA⟩ : ∃ A, (s.extract 0 i) = A := ⟨_, rfl⟩
  obtain ⟨B, hB⟩ : ∃ B, (s.extract (i + 1) s.size) = B := ⟨_, rfl⟩
  rw [hA] at C P
  rw [hB] at C Q
  clear hA hB h hi
  go_enter Tryd.func29, Tryd.ntmps29
  go_wp2_with fail
  with_reducible refine (C _).mono ?_
  rintro e w1 ⟨rfl, b1⟩
  have R1 := (rbox_new w 0 0 _).next b1
  have B1 : Below w.heap.size w w1 := on (new_below w _) b1
  have L1 := hL.below B1
  clear b1 hL
  go_wp2_with fail
  with_reducible refine (P _).mono ?_
  rintro e w2 ⟨rfl, b2⟩
  have R2 := R1.next b2
  have B2 := on B1 b2
  have L2 := L1.below b2
  clear b2 R1 B1 L1
  go_wp2_with fail
  with_reducible refine (Q _ L2).mono ?_
  rintro e w3 ⟨v, N, hv, rfl, b3⟩
  have R3 := R2.next b3
  have B3 := on B2 b3
  have L3 := L2.below b3
  clear b3 R2 B2 L2
  obtain ⟨c0, c1, f0, f1, hz⟩ := R3
  go_wp2
  exact bodyPost_ret (v := .tuple #[.agg #[.int .i64 0, .int .i64 0], .int .i64 4]) (by simp [results, Tryd.results29, go_sem, c0, c1, hz]) rfl ⟨rfl, ((B3.setCell (Nat.le_refl _) _).setCell (Nat.le_refl _) _).alloc (by simp [World.setCell]; omega) _⟩

set_option maxHeartbeats 2000000 in
theorem parse_hit_top (s : ByteArray) (hs : s.size ≤ 281474976710656) (i : Nat) (h : Lib.indexByte s.data.toList 47 = (i : Int)) (hi : i + 1 ≤ s.size) (hp : ∀ v, Lib.parseIntB 64 (s.extract 0 i).data.toList ≠ .ok v) (w : World) (hL : LibOk w) :
    Calls Tryd.prog 29 #[.string s] w fun e w' => e = .returned (.tuple #[.agg #[.int .i64 0, .int .i64 0], .int .i64 4]) ∧ Below w.heap.size w w' := by
  have C := cut_hit s i h hi hs
  have P := pint_no (s.extract 0 i) (show (s.extract 0 i).size ≤ 281474976710656 by rw [ByteArray.size_extract]; omega) hp
  have Q := pint_any (s.extract (i + 1) s.size) (show (s.extract (i + 1) s.size).size ≤ 281474976710656 by rw [ByteArray.size_extract]; omega)
  clear hp
  obtain ⟨A, hA⟩ : ∃ A, (s.extract 0 i) = A := ⟨_, rfl⟩
  obtain ⟨B, hB⟩ : ∃ B, (s.extract (i + 1) s.size) = B := ⟨_, rfl⟩
  rw [hA] at C P
  rw [hB] at C Q
  clear hA hB h hi
  go_enter Tryd.func29, Tryd.ntmps29
  go_wp2_with fail
  with_reducible refine (C _).mono ?_
  rintro e w1 ⟨rfl, b1⟩
  have R1 := (rbox_new w 0 0 _).next b1
  have B1 : Below w.heap.size w w1 := on (new_below w _) b1
  have L1 := hL.below B1
  clear b1 hL
  go_wp2_with fail
  with_reducible refine (P _ L1).mono ?_
  rintro e w2 ⟨u, N, hu, rfl, b2⟩
  have R2 := R1.next b2
  have B2 := on B1 b2
  have L2 := L1.below b2
  clear b2 R1 B1 L1
  go_wp2_with fail
  with_reducible refine (Q _ L2).mono ?_
  rintro e w3 ⟨v, ev, hv, rfl, b3⟩
  have R3 := R2.next b3
  have B3 := on B2 b3
  have L3 := L2.below b3
  clear b3 R2 B2 L2
  obtain ⟨c0, c1, f0, f1, hz⟩ := R3
  go_wp2
  exact bodyPost_ret (v := .tuple #[.agg #[.int .i64 0, .int .i64 0], .int .i64 4]) (by simp [results, Tryd.results29, go_sem, c0, c1, hz]) rfl ⟨rfl, ((B3.setCell (Nat.le_refl _) _).setCell (Nat.le_refl _) _).alloc (by simp [World.setCell]; omega) _⟩

/-- The two pieces of a text: what is ahead of its first '/', and what is behind it; "1", if there is none. -/
def topOf (l : List UInt8) : List UInt8 := if Lib.indexByte l 47 = -1 then l else l.take (Lib.indexByte l 47).toNat
def botOf (l : List UInt8) : List UInt8 := if Lib.indexByte l 47 = -1 then [49] else l.drop ((Lib.indexByte l 47).toNat + 1)
/-- The good ratio whose signs a text is. -/
def prs (l : List UInt8) : Option (Int × Int) :=
  match Lib.parseIntB 64 (topOf l), Lib.parseIntB 64 (botOf l) with
  | .ok n, .ok d => if txt n d = l then some (n, d) else none
  | _, _ => none
def prN (l : List UInt8) : Int := match prs l with | some (n, _) => n | none => 0
def prD (l : List UInt8) : Int := match prs l with | some (_, d) => d | none => 0
def prE (l : List UInt8) : Int := match prs l with | some _ => 0 | none => 4

theorem prs_yes {l : List UInt8} {n d : Int} (h1 : Lib.parseIntB 64 (topOf l) = .ok n) (h2 : Lib.parseIntB 64 (botOf l) = .ok d) (h3 : txt n d = l) : prN l = n ∧ prD l = d ∧ prE l = 0 := by
  have e : prs l = some (n, d) := by unfold prs; rw [h1, h2]; simp [h3]
  unfold prN prD prE
  rw [e]; simp
theorem prs_none {l : List UInt8} (e : prs l = none) : prN l = 0 ∧ prD l = 0 ∧ prE l = 4 := by
  unfold prN prD prE
  rw [e]; simp
theorem prs_no1 {l : List UInt8} (h1 : ∀ v, Lib.parseIntB 64 (topOf l) ≠ .ok v) : prs l = none := by
  unfold prs
  split
  · rename_i a _; exact absurd a (h1 _)
  · rfl
theorem prs_no2 {l : List UInt8} (h1 : ∀ v, Lib.parseIntB 64 (botOf l) ≠ .ok v) : prs l = none := by
  unfold prs
  split
  · rename_i a; exact absurd a (h1 _)
  · rfl
theorem prs_no3 {l : List UInt8} {n d : Int} (h1 : Lib.parseIntB 64 (topOf l) = .ok n) (h2 : Lib.parseIntB 64 (botOf l) = .ok d) (h3 : txt n d ≠ l) : prs l = none := by
  unfold prs; rw [h1, h2]; simp [h3]

theorem num_or (l : List UInt8) : (∃ v, Lib.parseIntB 64 l = .ok v ∧ I64 v) ∨ ∀ v, Lib.parseIntB 64 l ≠ .ok v := by
  by_cases h : ∃ v, Lib.parseIntB 64 l = .ok v
  · obtain ⟨v, hv⟩ := h
    have := Lib.parseIntB_bounds hv
    exact Or.inl ⟨v, hv, by unfold I64; omega⟩
  · exact Or.inr fun v hv => h ⟨v, hv⟩

theorem pieces_miss {s : ByteArray} (h : Lib.indexByte s.data.toList 47 = -1) : topOf s.data.toList = s.data.toList ∧ botOf s.data.toList = (⟨#[49]⟩ : ByteArray).data.toList := by
  unfold topOf botOf
  rw [if_pos h, if_pos h]; exact ⟨rfl, rfl⟩
theorem pieces_hit {s : ByteArray} {i : Nat} (h : Lib.indexByte s.data.toList 47 = (i : Int)) : topOf s.data.toList = (s.extract 0 i).data.toList ∧ botOf s.data.toList = (s.extract (i + 1) s.size).data.toList := by
  have hne : ¬ Lib.indexByte s.data.toList 47 = -1 := by omega
  have e : s.size = s.data.toList.length := Lib.size_eq s
  unfold topOf botOf
  rw [if_neg hne, if_neg hne, h]
  constructor
  · simp [ByteArray.data_extract]
  · simp only [ByteArray.data_extract, Array.toList_extract, Int.toNat_natCast, e]
    rw [List.extract_eq_take_drop, List.take_of_length_le (by rw [List.length_drop]; omega)]
theorem index_or (s : ByteArray) : Lib.indexByte s.data.toList 47 = -1 ∨ ∃ i : Nat, Lib.indexByte s.data.toList 47 = (i : Int) ∧ i + 1 ≤ s.size := by
  have h := Lib.indexByte_ge s.data.toList 47
  by_cases h1 : Lib.indexByte s.data.toList 47 = -1
  · exact Or.inl h1
  · obtain ⟨i, hi⟩ : ∃ i : Nat, Lib.indexByte s.data.toList 47 = (i : Int) := ⟨(Lib.indexByte s.data.toList 47).toNat, by omega⟩
    refine Or.inr ⟨i, hi, ?_⟩
    obtain ⟨h2, _⟩ := Lib.indexByte_some hi
    have h3 := (List.getElem?_eq_some_iff.1 h2).1
    have e : s.size = s.data.toList.length := Lib.size_eq s
    omega

/-- Parse, at every text. -/
theorem parse_any (s : ByteArray) (hs : s.size ≤ 281474976710656) (w : World) (hL : LibOk w) :
    Calls Tryd.prog 29 #[.string s] w fun e w' => e = .returned (.tuple #[.agg #[.int .i64 (prN s.data.toList), .int .i64 (prD s.data.toList)], .int .i64 (prE s.data.toList)]) ∧ Below w.heap.size w w' := by
  rcases index_or s with h | ⟨i, h, hi⟩
  · obtain ⟨e1, e2⟩ := pieces_miss h
    rcases num_or (topOf s.data.toList) with ⟨n, hn, in_⟩ | hn
    · rcases num_or (botOf s.data.toList) with ⟨d, hd, id_⟩ | hd
      · by_cases ht : txt n d = s.data.toList
        · obtain ⟨f1, f2, f3⟩ := prs_yes hn hd ht
          rw [f1, f2, f3]
          exact parse_miss_eq s hs h n d in_ id_ (e1 ▸ hn) (e2 ▸ hd) ht w hL
        · obtain ⟨f1, f2, f3⟩ := prs_none (prs_no3 hn hd ht)
          rw [f1, f2, f3]
          exact parse_miss_ne s hs h n d in_ id_ (e1 ▸ hn) (e2 ▸ hd) ht w hL
      · obtain ⟨f1, f2, f3⟩ := prs_none (prs_no2 hd)
        rw [f1, f2, f3]
        exact parse_miss_bot s hs h n (e1 ▸ hn) (e2 ▸ hd) w hL
    · obtain ⟨f1, f2, f3⟩ := prs_none (prs_no1 hn)
      rw [f1, f2, f3]
      exact parse_miss_top s hs h (e1 ▸ hn) w hL
  · obtain ⟨e1, e2⟩ := pieces_hit h
    rcases num_or (topOf s.data.toList) with ⟨n, hn, in_⟩ | hn
    · rcases num_or (botOf s.data.toList) with ⟨d, hd, id_⟩ | hd
      · by_cases ht : txt n d = s.data.toList
        · obtain ⟨f1, f2, f3⟩ := prs_yes hn hd ht
          rw [f1, f2, f3]
          exact parse_hit_eq s hs i h hi n d in_ id_ (e1 ▸ hn) (e2 ▸ hd) ht w hL
        · obtain ⟨f1, f2, f3⟩ := prs_none (prs_no3 hn hd ht)
          rw [f1, f2, f3]
          exact parse_hit_ne s hs i h hi n d in_ id_ (e1 ▸ hn) (e2 ▸ hd) ht w hL
      · obtain ⟨f1, f2, f3⟩ := prs_none (prs_no2 hd)
        rw [f1, f2, f3]
        exact parse_hit_bot s hs i h hi n (e1 ▸ hn) (e2 ▸ hd) w hL
    · obtain ⟨f1, f2, f3⟩ := prs_none (prs_no1 hn)
      rw [f1, f2, f3]
      exact parse_hit_top s hs i h hi (e1 ▸ hn) w hL
end Go.Proofs.YtjaabjehegcnaaaDoor
