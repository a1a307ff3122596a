/-
  What package lex's small functions do: lead, isBroken, behind, passed, read, first; and the document's letter and digit.
-/
import Derived.Test.YtbadingdklenhaaGreatDoorRows
import Derived.Test.YtbadingdklenhaaGreatDoorShelf
import Derived.Test.YtbadingdklenhaaGreatDoorLexNum
import Derived.WalkSpells
import Derived.WalkLawsBesides
import Derived.Deep.RegionHeld3
import Derived.Deep.RegionWith
import Derived.BigQuiet
import Derived.WalkSmall
import Derived.Handy
import Derived.Lib.Hide
namespace Go.Proofs.YtbadingdklenhaaGreatDoor
set_option maxRecDepth 100000
open Go.RowKit

theorem onL {a b c : World} (h1 : Below a.heap.size a b) (h2 : Below b.heap.size b c) : Below a.heap.size a c := h1.trans (h2.mono h1.size)
theorem new_belowL (w : World) (o : Obj) : Below w.heap.size w (w.alloc o) := (Below.refl _ _).alloc (Nat.le_refl _) _
theorem ba_list (l : List UInt8) : (⟨l.toArray⟩ : ByteArray).data.toList = l := by simp
theorem ba_size (l : List UInt8) : (⟨l.toArray⟩ : ByteArray).size = l.length := by show l.toArray.size = _; simp
theorem ba_same {A B : ByteArray} (h : A.data.toList = B.data.toList) : A = B := ByteArray.ext (Array.toList_inj.1 h)

/-! ### letters and digits -/
theorem all_bytes {f g : UInt8 → Bool} (h : ∀ n, n < 256 → f (UInt8.ofNat n) = g (UInt8.ofNat n)) (b : UInt8) : f b = g b := by
  have := h b.toNat b.toNat_lt
  simpa using this
def lettersL : List UInt8 := [97, 98, 99, 100, 101, 102, 103, 104, 105, 106, 107, 108, 109, 110, 111, 112, 113, 114, 115, 116, 117, 118, 119, 120, 121, 122]
def digitsL : List UInt8 := [48, 49, 50, 51, 52, 53, 54, 55, 56, 57]
theorem in_letters : (fun b => lettersL.contains b) = isL := funext (all_bytes (by decide +kernel))
theorem in_digits : (fun b => digitsL.contains b) = isD := funext (all_bytes (by decide +kernel))
theorem in_both : (fun b => (lettersL ++ digitsL).contains b) = isA := funext (all_bytes (by decide +kernel))
theorem ascii_all {l : List UInt8} (h : l.all (fun b => decide (b.toNat < 128)) = true) (j : Nat) (b : UInt8) (hj : l[j]? = some b) : b.toNat < 128 := by
  simpa using List.all_eq_true.1 h b (List.mem_of_getElem? hj)

theorem take_drop_len (p : UInt8 → Bool) (l : List UInt8) : (l.takeWhile p).length + (l.dropWhile p).length = l.length := by
  rw [← List.length_append, List.takeWhile_append_dropWhile]
theorem take_all_len {p : UInt8 → Bool} {l : List UInt8} : (l.takeWhile p).length = l.length ↔ l.all p = true := by
  constructor
  · intro h
    have h2 := take_drop_len p l
    have h3 : l.dropWhile p = [] := List.eq_nil_of_length_eq_zero (by omega)
    have h4 := List.takeWhile_append_dropWhile (p := p) (l := l)
    rw [h3, List.append_nil] at h4
    rw [← h4]
    exact List.all_takeWhile
  · intro h
    have : ∀ (l : List UInt8), l.all p = true → l.takeWhile p = l := by
      intro l
      induction l with
      | nil => intro _; rfl
      | cons a l ih =>
        intro h
        simp only [List.all_cons, Bool.and_eq_true] at h
        rw [List.takeWhile_cons, h.1]
        simp [ih h.2]
    rw [this l h]

theorem trimLeft_any (s c : ByteArray) (hc : c.size < 4294967281) (ha : ∀ (j : Nat) b, c.data.toList[j]? = some b → b.toNat < 128) (w : World) :
    Calls Tryz.prog 91 #[.string s, .string c] w fun e w' => e = .returned (.string ⟨(Lib.trimLeftS s.data.toList c.data.toList).toArray⟩) ∧ Below w.heap.size w w' :=
  Any.strings_TrimLeft_laid Tryz.lays161 (by kernel_rfl) s c w hc ha

theorem lead_any (s c : ByteArray) (hs : s.size ≤ 281474976710656) (hc : c.size < 4294967281) (ha : ∀ (j : Nat) b, c.data.toList[j]? = some b → b.toNat < 128) (w : World) :
    Calls Tryz.prog 80 #[.string s, .string c] w fun e w' => e = .returned (.int .i64 ((s.data.toList.takeWhile (fun b => c.data.toList.contains b)).length : Nat)) ∧ Below w.heap.size w w' := by
  have T := trimLeft_any s c hc ha
  have e1 := take_drop_len (fun b => c.data.toList.contains b) s.data.toList
  rw [size_list] at e1
  have e2 := ba_size (Lib.trimLeftS s.data.toList c.data.toList)
  have e3 : Lib.trimLeftS s.data.toList c.data.toList = s.data.toList.dropWhile (fun b => c.data.toList.contains b) := rfl
  rw [e3] at T e2
  generalize (s.data.toList.takeWhile (fun b => c.data.toList.contains b)).length = n at e1 ⊢
  generalize (⟨(s.data.toList.dropWhile (fun b => c.data.toList.contains b)).toArray⟩ : ByteArray) = X at e2 T
  have e4 : X.size + n = s.size := by omega
  have e5 : (s.size : Int) - (X.size : Int) = (n : Int) := by omega
  clear e1 e2 e3 ha
  go_enter Tryz.func80, Tryz.ntmps80
  go_wp2_with fail
  with_reducible refine (T _).mono ?_
  rintro e w1 ⟨rfl, b1⟩
  go_wp2
  go_ret
  exact ⟨rfl, b1⟩

theorem leadL (s : ByteArray) (hs : s.size ≤ 281474976710656) (w : World) :
    Calls Tryz.prog 80 #[.string s, .string ⟨#[97, 98, 99, 100, 101, 102, 103, 104, 105, 106, 107, 108, 109, 110, 111, 112, 113, 114, 115, 116, 117, 118, 119, 120, 121, 122]⟩] w fun e w' => e = .returned (.int .i64 ((s.data.toList.takeWhile isL).length : Nat)) ∧ Below w.heap.size w w' := by
  have h := lead_any s ⟨lettersL.toArray⟩ hs (by decide) (ascii_all (by decide)) w
  rw [show (fun b => (⟨lettersL.toArray⟩ : ByteArray).data.toList.contains b) = isL from in_letters] at h
  exact h
theorem leadD (s : ByteArray) (hs : s.size ≤ 281474976710656) (w : World) :
    Calls Tryz.prog 80 #[.string s, .string ⟨#[48, 49, 50, 51, 52, 53, 54, 55, 56, 57]⟩] w fun e w' => e = .returned (.int .i64 ((s.data.toList.takeWhile isD).length : Nat)) ∧ Below w.heap.size w w' := by
  have h := lead_any s ⟨digitsL.toArray⟩ hs (by decide) (ascii_all (by decide)) w
  rw [show (fun b => (⟨digitsL.toArray⟩ : ByteArray).data.toList.contains b) = isD from in_digits] at h
  exact h
theorem leadA (s : ByteArray) (hs : s.size ≤ 281474976710656) (w : World) :
    Calls Tryz.prog 80 #[.string s, .string ⟨#[97, 98, 99, 100, 101, 102, 103, 104, 105, 106, 107, 108, 109, 110, 111, 112, 113, 114, 115, 116, 117, 118, 119, 120, 121, 122, 48, 49, 50, 51, 52, 53, 54, 55, 56, 57]⟩] w fun e w' => e = .returned (.int .i64 ((s.data.toList.takeWhile isA).length : Nat)) ∧ Below w.heap.size w w' := by
  have h := lead_any s ⟨(lettersL ++ digitsL).toArray⟩ hs (by decide) (ascii_all (by decide)) w
  rw [show (fun b => (⟨(lettersL ++ digitsL).toArray⟩ : ByteArray).data.toList.contains b) = isA from in_both] at h
  exact h

/-! ### isBroken, behind -/
theorem isBroken_any (c : Int) (s : ByteArray) (w : World) :
    Calls Tryz.prog 61 #[.int .i32 c, .string s] w fun e w' => e = .returned (.bool (c == 65533 && !(Lib.hasPrefix s.data.toList [239, 191, 189]))) ∧ Below w.heap.size w w' := by
  have H := Tryz.strings_HasPrefix s ⟨#[239, 191, 189]⟩
  rw [show (⟨#[239, 191, 189]⟩ : ByteArray).data.toList = [239, 191, 189] from rfl] at H
  generalize Lib.hasPrefix s.data.toList [239, 191, 189] = b at H ⊢
  by_cases hc : c = 65533
  · subst hc
    go_enter Tryz.func61, Tryz.ntmps61
    go_wp2_with fail
    with_reducible refine (H _).mono ?_
    rintro e w1 ⟨rfl, rfl⟩
    go_wp2
    go_ret
    exact ⟨by simp, Below.refl _ _⟩
  · have hc' : (c == 65533) = false := by simpa using hc
    rw [hc']
    clear H
    go_enter Tryz.func61, Tryz.ntmps61
    go_wp2
    go_ret
    exact ⟨by simp, Below.refl _ _⟩

def posV (line col : Int) : Value := .agg #[.int .i64 line, .int .i64 col]
def tokV (k : Int) (s : ByteArray) (n line col : Int) : Value := .agg #[.int .i64 k, .string s, .int .i64 n, .int .i64 line, .int .i64 col]
theorem behind_any (line col : Nat) (c : Int) (h1 : line ≤ 4294967296) (h2 : col ≤ 4294967296) (w : World) :
    Calls Tryz.prog 64 #[.agg #[.int .i64 line, .int .i64 col], .int .i32 c] w fun e w' => e = .returned (.agg #[.int .i64 ((if c = 10 then line + 1 else line : Nat) : Int), .int .i64 ((if c = 10 then 1 else col + 1 : Nat) : Int)]) ∧ Below w.heap.size w w' := by
  by_cases hc : c = 10
  · rw [if_pos hc, if_pos hc]
    subst hc
    go_enter Tryz.func64, Tryz.ntmps64
    go_wp2
    go_returns
    refine ⟨by simp, ?_⟩
    go_grown
  · rw [if_neg hc, if_neg hc]
    have hc' : (c == 10) = false := by simpa using hc
    go_enter Tryz.func64, Tryz.ntmps64
    go_wp2
    go_returns
    refine ⟨by simp, ?_⟩
    go_grown
/-! ### the document's letter and digit -/
theorem rLetter_any (b : UInt8) (w : World) : Calls Tryz.prog 55 #[.int .u8 b.toNat] w fun e w' => e = .returned (.bool (isL b)) ∧ w' = w := by
  have e : isL b = (decide ((97 : Int) ≤ (b.toNat : Int)) && decide ((b.toNat : Int) ≤ 122)) := by
    unfold isL
    rw [show decide (97 ≤ b.toNat) = decide ((97 : Int) ≤ (b.toNat : Int)) from decide_eq_decide.2 (by omega), show decide (b.toNat ≤ 122) = decide ((b.toNat : Int) ≤ 122) from decide_eq_decide.2 (by omega)]
  rw [e]
  by_cases h : (97 : Int) ≤ (b.toNat : Int)
  · go_enter Tryz.func55, Tryz.ntmps55
    go_wp2
    go_ret
    exact ⟨by simp [h], rfl⟩
  · go_enter Tryz.func55, Tryz.ntmps55
    go_wp2
    go_ret
    exact ⟨by simp; omega, rfl⟩
theorem rDigit_any (b : UInt8) (w : World) : Calls Tryz.prog 56 #[.int .u8 b.toNat] w fun e w' => e = .returned (.bool (isD b)) ∧ w' = w := by
  have e : isD b = (decide ((48 : Int) ≤ (b.toNat : Int)) && decide ((b.toNat : Int) ≤ 57)) := by
    unfold isD
    rw [show decide (48 ≤ b.toNat) = decide ((48 : Int) ≤ (b.toNat : Int)) from decide_eq_decide.2 (by omega), show decide (b.toNat ≤ 57) = decide ((b.toNat : Int) ≤ 57) from decide_eq_decide.2 (by omega)]
  rw [e]
  by_cases h : (48 : Int) ≤ (b.toNat : Int)
  · go_enter Tryz.func56, Tryz.ntmps56
    go_wp2
    go_ret
    exact ⟨by simp [h], rfl⟩
  · go_enter Tryz.func56, Tryz.ntmps56
    go_wp2
    go_ret
    exact ⟨by simp; omega, rfl⟩

/-! ### passed -/
set_option maxHeartbeats 2000000 in
theorem lcut_miss (s : ByteArray) (h : Lib.indexByte s.data.toList 10 = -1) (w : World) :
    Calls Tryz.prog 89 #[.string s, .string ⟨#[10]⟩] w fun e w' => e = .returned (.tuple #[.string s, .string ByteArray.empty, .bool false]) ∧ w = w' := by
  have I := Tryz.stringslite_Index_one s 10
  rw [h] at I
  go_enter Tryz.func89, Tryz.ntmps89
  go_wp2_with fail
  with_reducible refine (I _).mono ?_
  rintro e w' ⟨rfl, rfl⟩
  go_wp2
  go_ret3
  exact ⟨rfl, rfl⟩

set_option maxHeartbeats 2000000 in
theorem lcut_hit (s : ByteArray) (i : Nat) (h : Lib.indexByte s.data.toList 10 = (i : Int)) (hi : i + 1 ≤ s.size) (hs : s.size ≤ 281474976710656) (w : World) :
    Calls Tryz.prog 89 #[.string s, .string ⟨#[10]⟩] w fun e w' => e = .returned (.tuple #[.string (s.extract 0 i), .string (s.extract (i + 1) s.size), .bool true]) ∧ Below w.heap.size w w' := by
  have I := Tryz.stringslite_Index_one s 10
  rw [h] at I
  have c1 : (0 : Int) ≤ ↑i := by omega
  have c2 : (↑i : Int) ≤ ↑s.size := by omega
  have c3 : (0 : Int) ≤ ↑i + 1 := by omega
  have c4 : (↑i + 1 : Int) ≤ ↑s.size := by omega
  clear h
  go_enter Tryz.func89, Tryz.ntmps89
  go_wp2_with fail
  with_reducible refine (I _).mono ?_
  rintro e w' ⟨rfl, rfl⟩
  go_wp2
  go_quiet (fail)
  go_wp2
  go_ret3
  exact ⟨rfl, below_drewN (Below.refl _ _) _⟩

theorem cut_miss (s : ByteArray) (h : Lib.indexByte s.data.toList 10 = -1) (w : World) :
    Calls Tryz.prog 78 #[.string s, .string ⟨#[10]⟩] w fun e w' => e = .returned (.tuple #[.string s, .string ByteArray.empty, .bool false]) ∧ Below w.heap.size w w' := by
  have C := lcut_miss s h
  clear h
  go_enter Tryz.func78, Tryz.ntmps78
  go_wp2_with fail
  with_reducible refine (C _).mono ?_
  rintro e w' ⟨rfl, rfl⟩
  go_wp2
  go_ret3
  exact ⟨rfl, Below.refl _ _⟩
theorem cut_hit (s : ByteArray) (i : Nat) (h : Lib.indexByte s.data.toList 10 = (i : Int)) (hi : i + 1 ≤ s.size) (hs : s.size ≤ 281474976710656) (w : World) :
    Calls Tryz.prog 78 #[.string s, .string ⟨#[10]⟩] w fun e w' => e = .returned (.tuple #[.string (s.extract 0 i), .string (s.extract (i + 1) s.size), .bool true]) ∧ Below w.heap.size w w' := by
  have C := lcut_hit s i h hi hs
  clear h
  go_enter Tryz.func78, Tryz.ntmps78
  go_wp2_with fail
  with_reducible refine (C _).mono ?_
  rintro e w1 ⟨rfl, b1⟩
  go_wp2
  go_ret3
  exact ⟨rfl, b1⟩
theorem index_line : ∀ (l : List UInt8), (Lib.indexByte l 10 = -1 ∧ (l.takeWhile (· != 10)).length = l.length) ∨ (∃ i : Nat, Lib.indexByte l 10 = (i : Int) ∧ i + 1 ≤ l.length ∧ (l.takeWhile (· != 10)).length = i)
  | [] => .inl ⟨rfl, rfl⟩
  | b :: l => by
    unfold Lib.indexByte
    by_cases h : b = 10
    · right
      refine ⟨0, by simp [h], by simp, by simp [h]⟩
    · have hb : (b == 10) = false := by simpa using h
      have hn : (b != 10) = true := by simpa using h
      rw [hb]
      rcases index_line l with ⟨h1, h2⟩ | ⟨i, h1, h2, h3⟩
      · left
        rw [h1]
        refine ⟨rfl, ?_⟩
        rw [List.takeWhile_cons, hn]
        simp [h2]
      · right
        have : ((i : Int) == -1) = false := by simp
        refine ⟨i + 1, by rw [h1, this]; simp, by simp only [List.length_cons]; omega, ?_⟩
        rw [List.takeWhile_cons, hn]
        simp [h3]

theorem list_head {s : ByteArray} (h0 : 0 < s.size) : ∃ a r, s.data.toList = a :: r ∧ s[0]'h0 = a := by
  have h := get_list s 0 h0
  have h2 : s.get! 0 = s[0]'h0 := get_at s 0 h0
  cases hd : s.data.toList with
  | nil => rw [hd] at h; cases h
  | cons a r =>
    rw [hd] at h
    refine ⟨a, r, rfl, ?_⟩
    rw [← h2]
    exact (Option.some.inj h).symm
theorem byte_num {a : UInt8} {n : Nat} (hn : n < 256) : a = UInt8.ofNat n ↔ (a.toNat : Int) = (n : Int) := by
  constructor
  · rintro rfl
    rw [UInt8.toNat_ofNat']
    omega
  · intro h
    have : a.toNat = n := by omega
    rw [← this]
    simp

theorem passed_any (s : ByteArray) (h0 : 0 < s.size) (hs : s.size ≤ 281474976710656) (w : World) :
    Calls Tryz.prog 62 #[.string s] w fun e w' => e = .returned (.int .i64 (psd s.data.toList : Nat)) ∧ Below w.heap.size w w' := by
  obtain ⟨a, r, hl, ha⟩ := list_head h0
  have h0' : (0 : Int) < (s.size : Int) := by omega
  have hc := cut_hit s
  have hm := cut_miss s
  have hix := index_line s.data.toList
  rw [size_list] at hix
  have n32 := byte_num (a := a) (n := 32) (by omega)
  have n9 := byte_num (a := a) (n := 9) (by omega)
  have n13 := byte_num (a := a) (n := 13) (by omega)
  have n10 := byte_num (a := a) (n := 10) (by omega)
  have n35 := byte_num (a := a) (n := 35) (by omega)
  by_cases h1 : (a == 32 || a == 9 || a == 13 || a == 10) = true
  · have e : psd s.data.toList = 1 := by rw [hl]; unfold psd; simp only; rw [if_pos h1]
    rw [e]
    have hor : (a.toNat : Int) = 32 ∨ (a.toNat : Int) = 9 ∨ (a.toNat : Int) = 13 ∨ (a.toNat : Int) = 10 := by
      simp only [Bool.or_eq_true, beq_iff_eq] at h1
      rcases h1 with ((h | h) | h) | h
      · exact .inl (n32.1 h)
      · exact .inr (.inl (n9.1 h))
      · exact .inr (.inr (.inl (n13.1 h)))
      · exact .inr (.inr (.inr (n10.1 h)))
    clear e h1 hc hm hix n32 n9 n13 n10 n35 hl
    subst ha
    rcases hor with h | h | h | h
    all_goals
      go_enter Tryz.func62, Tryz.ntmps62
      go_wp2
      go_ret
      exact ⟨rfl, Below.refl _ _⟩
  · have k32 : ¬ ((a.toNat : Int) = 32) := fun h => h1 (by rw [n32.2 h]; rfl)
    have k9 : ¬ ((a.toNat : Int) = 9) := fun h => h1 (by rw [n9.2 h]; rfl)
    have k13 : ¬ ((a.toNat : Int) = 13) := fun h => h1 (by rw [n13.2 h]; rfl)
    have k10 : ¬ ((a.toNat : Int) = 10) := fun h => h1 (by rw [n10.2 h]; rfl)
    by_cases h2 : a = 35
    · have e : psd s.data.toList = (s.data.toList.takeWhile (· != 10)).length := by
        rw [hl]
        unfold psd
        simp only
        rw [if_neg h1, if_pos h2]
      have k35 : (a.toNat : Int) = 35 := n35.1 h2
      rw [e]
      clear e h1 n32 n9 n13 n10 n35 hl h2
      subst ha
      rcases hix with ⟨i1, i2⟩ | ⟨i, i1, i2, i3⟩
      · rw [i2]
        have C := hm i1
        clear hc hm i1 i2
        go_enter Tryz.func62, Tryz.ntmps62
        go_wp2_with fail
        with_reducible refine (C _).mono ?_
        rintro e w1 ⟨rfl, b1⟩
        go_wp2
        go_ret
        exact ⟨rfl, b1⟩
      · rw [i3]
        have C := hc i i1 i2 hs
        have hz : (s.extract 0 i).size = i := by rw [ByteArray.size_extract]; omega
        generalize s.extract 0 i = X at hz C
        clear hc hm i1 i3
        go_enter Tryz.func62, Tryz.ntmps62
        go_wp2_with fail
        with_reducible refine (C _).mono ?_
        rintro e w1 ⟨rfl, b1⟩
        go_wp2
        go_ret
        exact ⟨rfl, b1⟩
    · have e : psd s.data.toList = 0 := by
        rw [hl]
        unfold psd
        simp only
        rw [if_neg h1, if_neg h2]
      have k35 : ¬ ((a.toNat : Int) = 35) := fun h => h2 (n35.2 h)
      rw [e]
      clear e h1 n32 n9 n13 n10 n35 hl h2 hc hm hix
      subst ha
      go_enter Tryz.func62, Tryz.ntmps62
      go_wp2
      go_ret
      exact ⟨rfl, Below.refl _ _⟩
end Go.Proofs.YtbadingdklenhaaGreatDoor
