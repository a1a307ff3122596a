/-
  What package ratio's Text and Parse do; what every statement of layer 2 asks first (wakes).
-/
import Derived.Test.YtjaabjehegcnaaaDoorRows
import Derived.Test.YtjaabjehegcnaaaDoorShelf
import Derived.Test.YtjaabjehegcnaaaDoorRatioWalks
import Derived.WalkSmall
import Derived.Lib.ItoaLen
namespace Go.Proofs.YtjaabjehegcnaaaDoor
set_option maxRecDepth 100000
open Go.RowKit

/-- The library's table of powers of ten reads as its initialiser lays it. -/
def TabOk (w : World) : Prop := Lib.TabIs Tryd.prog w "internal/strconv.uint64pow10" .u64 Lib.pow10Tab
theorem TabOk.below {w w' : World} (h : TabOk w) (hb : Below w.heap.size w w') : TabOk w' := by
  unfold TabOk Lib.TabIs World.var? at *
  cases hg : Tryd.prog.globalNamed "internal/strconv.uint64pow10" with
  | none => rw [hg] at h; cases h
  | some g =>
    rw [hg] at h
    simp only [Option.bind_some] at h ⊢
    have hlt : g < w.heap.size := by
      rcases Nat.lt_or_ge g w.heap.size with h' | h'
      · exact h'
      · rw [Array.getElem?_eq_none h'] at h; cases h
    rw [hb.block g hlt]
    exact h

/-- The string of these bytes. -/
def strV (l : List UInt8) : Value := .string ⟨l.toArray⟩

theorem format_any (n : Int) (hn : I64 n) (w : World) (hT : TabOk w) :
    Calls Tryd.prog 54 #[.int .i64 n, .int .i64 10] w fun e w' => e = .returned (.string ⟨(Lib.itoa n).toArray⟩) ∧ Below w.heap.size w w' := by
  refine (Tryd.strconv_FormatInt_10 n hn.1 hn.2 w hT).mono ?_
  rintro e w' ⟨rfl, k, os, rfl⟩
  exact ⟨rfl, ⟨rfl, rfl, rfl, by show w.heap.size ≤ (w.heap ++ os).size; rw [Array.size_append]; omega, fun j hj => Array.getElem?_append_left hj⟩⟩

theorem itoa_ba (n : Int) (hn : I64 n) : ∃ A : ByteArray, (⟨(Lib.itoa n).toArray⟩ : ByteArray) = A ∧ A.size ≤ 21 ∧ A.data.toList = Lib.itoa n := by
  refine ⟨_, rfl, ?_, by simp⟩
  show (Lib.itoa n).toArray.size ≤ 21
  simpa using Lib.itoa_length_le n hn.1 hn.2

/-- A ratio's signs. -/
def txt (n d : Int) : List UInt8 := if goodB n d = true then (if d = 1 then Lib.itoa n else Lib.itoa n ++ 47 :: Lib.itoa d) else []

theorem text_any (n d : Int) (hn : I64 n) (hd : I64 d) (w : World) (hT : TabOk w) :
    Calls Tryd.prog 28 #[.agg #[.int .i64 n, .int .i64 d]] w fun e w' => e = .returned (strV (txt n d)) ∧ Below w.heap.size w w' := by
  have G := good_any n d hn hd
  by_cases hg : goodB n d = true
  · rw [hg] at G
    by_cases h1 : d = 1
    · have e1 : txt n d = Lib.itoa n := by unfold txt; rw [if_pos hg, if_pos h1]
      rw [e1]
      have hd1 : (d == 1) = true := by simp [h1]
      clear h1 e1 hg
      go_enter Tryd.func28, Tryd.ntmps28
      go_wp2_with fail
      with_reducible refine (G _).mono ?_
      rintro e w1 ⟨rfl, b1⟩
      obtain ⟨c0, c1, f0, f1, hz⟩ := (rbox_new w n d _).next b1
      have B1 : Below w.heap.size w w1 := on (new_below w _) b1
      have T1 := hT.below B1
      clear b1
      go_wp2_with fail
      with_reducible refine (format_any n hn _ T1).mono ?_
      rintro e w2 ⟨rfl, b2⟩
      have B2 := on B1 b2
      obtain ⟨c0, c1, f0, f1, hz⟩ := (RBox.mk c0 c1 f0 f1 hz).next b2
      go_wp2
      go_ret
      exact ⟨rfl, B2⟩
    · have e1 : txt n d = Lib.itoa n ++ 47 :: Lib.itoa d := by unfold txt; rw [if_pos hg, if_neg h1]
      have hd1 : (d == 1) = false := by simp [h1]
      have FN := format_any n hn
      have FD := format_any d hd
      obtain ⟨A, hA, sA, eA⟩ := itoa_ba n hn
      obtain ⟨B, hB, sB, eB⟩ := itoa_ba d hd
      rw [hA] at FN
      rw [hB] at FD
      have E1 : Hid (strV (txt n d) = .string (A ++ ⟨#[47]⟩ ++ B)) := by
        show _ = _
        unfold strV
        congr 1
        apply ByteArray.ext
        apply Array.toList_inj.1
        rw [e1]
        simp [eA, eB]
      clear h1 e1 hg hA hB eA eB
      go_enter Tryd.func28, Tryd.ntmps28
      go_wp2_with fail
      with_reducible refine (G _).mono ?_
      rintro e w1 ⟨rfl, b1⟩
      obtain ⟨c0, c1, f0, f1, hz⟩ := (rbox_new w n d _).next b1
      have B1 : Below w.heap.size w w1 := on (new_below w _) b1
      have T1 := hT.below B1
      clear b1
      go_wp2_with fail
      with_reducible refine (FN _ T1).mono ?_
      rintro e w2 ⟨rfl, b2⟩
      have B2 := on B1 b2
      have T2 := T1.below b2
      have R2 := (RBox.mk c0 c1 f0 f1 hz).next b2
      clear b2 c0 c1 f0 f1 hz B1 T1
      obtain ⟨c0, c1, f0, f1, hz⟩ := R2
      go_wp2_with fail
      with_reducible refine (FD _ T2).mono ?_
      rintro e w3 ⟨rfl, b3⟩
      have B3 := on B2 b3
      go_wp2
      go_ret
      exact ⟨congrArg Ending.returned E1.out.symm, B3⟩
  · have e1 : txt n d = [] := by unfold txt; rw [if_neg hg]
    have hg' : goodB n d = false := by simpa using hg
    rw [hg'] at G
    rw [e1]
    clear e1 hg hg'
    go_enter Tryd.func28, Tryd.ntmps28
    go_wp2_with fail
    with_reducible refine (G _).mono ?_
    rintro e w1 ⟨rfl, b1⟩
    have B1 : Below w.heap.size w w1 := on (new_below w _) b1
    go_wp2
    go_ret
    exact ⟨rfl, B1⟩

/-! ### strings.Cut at one byte -/
set_option maxHeartbeats 2000000 in
theorem lcut_miss (s : ByteArray) (h : Lib.indexByte s.data.toList 47 = -1) (w : World) :
    Calls Tryd.prog 72 #[.string s, .string ⟨#[47]⟩] w fun e w' => e = .returned (.tuple #[.string s, .string ByteArray.empty, .bool false]) ∧ w = w' := by
  have I := Tryd.stringslite_Index_one s 47
  rw [h] at I
  go_enter Tryd.func72, Tryd.ntmps72
  go_wp2_with fail
  with_reducible refine (I _).mono ?_
  rintro e w' ⟨rfl, rfl⟩
  go_wp2
  go_ret3
  exact ⟨rfl, rfl⟩

set_option maxHeartbeats 2000000 in
theorem lcut_hit (s : ByteArray) (i : Nat) (h : Lib.indexByte s.data.toList 47 = (i : Int)) (hi : i + 1 ≤ s.size) (hs : s.size ≤ 281474976710656) (w : World) :
    Calls Tryd.prog 72 #[.string s, .string ⟨#[47]⟩] w fun e w' => e = .returned (.tuple #[.string (s.extract 0 i), .string (s.extract (i + 1) s.size), .bool true]) ∧ Below w.heap.size w w' := by
  have I := Tryd.stringslite_Index_one s 47
  rw [h] at I
  have c1 : (0 : Int) ≤ ↑i := by omega
  have c2 : (↑i : Int) ≤ ↑s.size := by omega
  have c3 : (0 : Int) ≤ ↑i + 1 := by omega
  have c4 : (↑i + 1 : Int) ≤ ↑s.size := by omega
  clear h
  go_enter Tryd.func72, Tryd.ntmps72
  go_wp2_with fail
  with_reducible refine (I _).mono ?_
  rintro e w' ⟨rfl, rfl⟩
  go_wp2
  go_quiet (fail)
  go_wp2
  go_ret3
  exact ⟨rfl, below_drewN (Below.refl _ _) _⟩

theorem cut_miss (s : ByteArray) (h : Lib.indexByte s.data.toList 47 = -1) (w : World) :
    Calls Tryd.prog 55 #[.string s, .string ⟨#[47]⟩] w fun e w' => e = .returned (.tuple #[.string s, .string ByteArray.empty, .bool false]) ∧ Below w.heap.size w w' := by
  have C := lcut_miss s h
  clear h
  go_enter Tryd.func55, Tryd.ntmps55
  go_wp2_with fail
  with_reducible refine (C _).mono ?_
  rintro e w' ⟨rfl, rfl⟩
  go_wp2
  go_ret3
  exact ⟨rfl, Below.refl _ _⟩
theorem cut_hit (s : ByteArray) (i : Nat) (h : Lib.indexByte s.data.toList 47 = (i : Int)) (hi : i + 1 ≤ s.size) (hs : s.size ≤ 281474976710656) (w : World) :
    Calls Tryd.prog 55 #[.string s, .string ⟨#[47]⟩] w fun e w' => e = .returned (.tuple #[.string (s.extract 0 i), .string (s.extract (i + 1) s.size), .bool true]) ∧ Below w.heap.size w w' := by
  have C := lcut_hit s i h hi hs
  clear h
  go_enter Tryd.func55, Tryd.ntmps55
  go_wp2_with fail
  with_reducible refine (C _).mono ?_
  rintro e w1 ⟨rfl, b1⟩
  go_wp2
  go_ret3
  exact ⟨rfl, b1⟩

/-! ### strconv.ParseInt -/
/-- What the library reads of its own: the table, the two errors. -/
structure LibOk (w : World) : Prop where
  mk ::
  tab : TabOk w
  syn : ∃ tp p, w.var? Tryd.prog "strconv.ErrSyntax" = some #[.iface tp p]
  rng : ∃ tp p, w.var? Tryd.prog "strconv.ErrRange" = some #[.iface tp p]
theorem var_on {w w' : World} {n : String} {cs : Array Value} (h : w.var? Tryd.prog n = some cs) (hb : Below w.heap.size w w') : w'.var? Tryd.prog n = some cs := by
  unfold World.var? at *
  cases hg : Tryd.prog.globalNamed n with
  | none => rw [hg] at h; cases h
  | some g =>
    rw [hg] at h
    simp only [Option.bind_some] at h ⊢
    have hlt : g < w.heap.size := by
      rcases Nat.lt_or_ge g w.heap.size with h' | h'
      · exact h'
      · rw [Array.getElem?_eq_none h'] at h; cases h
    rw [hb.block g hlt]
    exact h
theorem LibOk.below {w w' : World} (h : LibOk w) (hb : Below w.heap.size w w') : LibOk w' := by
  obtain ⟨h1, ⟨a, b, h2⟩, ⟨c, d, h3⟩⟩ := h
  exact ⟨h1.below hb, ⟨a, b, var_on h2 hb⟩, ⟨c, d, var_on h3 hb⟩⟩

theorem pint_ok (s : ByteArray) (hs : s.size ≤ 281474976710656) (v : Int) (h : Lib.parseIntB 64 s.data.toList = .ok v) (w : World) :
    Calls Tryd.prog 56 #[.string s, .int .i64 10, .int .i64 64] w fun e w' => e = .returned (.tuple #[.int .i64 v, .nilIface]) ∧ Below w.heap.size w w' := by
  refine (Tryd.strconv_ParseInt_10_at64_ok s (by omega) v h w).mono ?_
  rintro e w' ⟨rfl, rfl | ⟨t, rfl⟩⟩
  · exact ⟨rfl, Below.refl _ _⟩
  · exact ⟨rfl, Lib.bytesWorld_below _ _ _⟩
/-- A number, and an error. -/
def IsErr (w : World) (e : Ending) (w' : World) : Prop := ∃ (u : Int) (N : Nat), I64 u ∧ e = .returned (.tuple #[.int .i64 u, .iface 107 (.pointer (some ⟨N, 0, none⟩))]) ∧ Below w.heap.size w w'
theorem pint_no (s : ByteArray) (hs : s.size ≤ 281474976710656) (h : ∀ v, Lib.parseIntB 64 s.data.toList ≠ .ok v) (w : World) (hL : LibOk w) :
    Calls Tryd.prog 56 #[.string s, .int .i64 10, .int .i64 64] w (IsErr w) := by
  obtain ⟨_, ⟨a, b, h2⟩, ⟨c, d, h3⟩⟩ := hL
  cases hp : Lib.parseIntB 64 s.data.toList
  · exact absurd hp (h _)
  · refine (Tryd.strconv_ParseInt_10_at64_syntax_var s hs hp a b w h2).mono ?_
    rintro e w' ⟨N, rfl, _, _, hb⟩
    exact ⟨0, N, by unfold I64; omega, rfl, hb⟩
  · refine (Tryd.strconv_ParseInt_10_at64_range_var s hs hp c d w h3).mono ?_
    rintro e w' ⟨N, rfl, _, _, hb⟩
    refine ⟨_, N, ?_, rfl, hb⟩
    unfold Lib.intSat I64
    split <;> decide
end Go.Proofs.YtjaabjehegcnaaaDoor
