/-
  What package lex's read and first do.
-/
import Derived.Test.YtbadingdklenhaaGreatDoorLexWalks
namespace Go.Proofs.YtbadingdklenhaaGreatDoor
set_option maxRecDepth 100000
open Go.RowKit

/-! ### strconv.ParseInt -/
/-- What the library reads of its own. -/
def LibOk (w : World) : Prop := ∃ tp p, w.var? Tryz.prog "strconv.ErrRange" = some #[.iface tp p]
theorem var_on {w w' : World} {n : String} {cs : Array Value} (h : w.var? Tryz.prog n = some cs) (hb : Below w.heap.size w w') : w'.var? Tryz.prog n = some cs := by
  unfold World.var? at *
  cases hg : Tryz.prog.globalNamed n with
  | none => rw [hg] at h; cases h
  | some g =>
    rw [hg] at h
    simp only [Option.bind_some] at h ⊢
    have hlt : g < w.heap.size := by
      rcases Nat.lt_or_ge g w.heap.size with h' | h'
      · exact h'
      · rw [Array.getElem?_eq_none h'] at h; cases h
    rw [hb.block g hlt]
    exact h
theorem LibOk.below {w w' : World} (h : LibOk w) (hb : Below w.heap.size w w') : LibOk w' := by
  obtain ⟨c, d, h3⟩ := h
  exact ⟨c, d, var_on h3 hb⟩
theorem pint_ok (s : ByteArray) (hs : s.size ≤ 281474976710656) (v : Int) (h : Lib.parseIntB 64 s.data.toList = .ok v) (w : World) :
    Calls Tryz.prog 92 #[.string s, .int .i64 10, .int .i64 64] w fun e w' => e = .returned (.tuple #[.int .i64 v, .nilIface]) ∧ Below w.heap.size w w' := by
  refine (Tryz.strconv_ParseInt_10_at64_ok s (by omega) v h w).mono ?_
  rintro e w' ⟨rfl, rfl | ⟨t, rfl⟩⟩
  · exact ⟨rfl, Below.refl _ _⟩
  · exact ⟨rfl, Lib.bytesWorld_below _ _ _⟩
/-- A number, and an error. -/
def IsErr (w : World) (e : Ending) (w' : World) : Prop := ∃ (u : Int) (N : Nat), e = .returned (.tuple #[.int .i64 u, .iface 193 (.pointer (some ⟨N, 0, none⟩))]) ∧ Below w.heap.size w w'
theorem pint_no (s : ByteArray) (hs : s.size ≤ 281474976710656) (h : Lib.parseIntB 64 s.data.toList = .range) (w : World) (hL : LibOk w) :
    Calls Tryz.prog 92 #[.string s, .int .i64 10, .int .i64 64] w (IsErr w) := by
  obtain ⟨c, d, h3⟩ := hL
  refine (Tryz.strconv_ParseInt_10_at64_range_var s hs h c d w h3).mono ?_
  rintro e w' ⟨N, rfl, _, _, hb⟩
  exact ⟨_, N, rfl, hb⟩

theorem trimMinus_any (s : ByteArray) (w : World) :
    Calls Tryz.prog 79 #[.string s, .string ⟨#[45]⟩] w fun e w' => e = .returned (.string ⟨(unsg s.data.toList).toArray⟩) ∧ w' = w :=
  Tryz.strings_TrimPrefix s ⟨#[45]⟩ w

theorem unsg_len (l : List UInt8) : (unsg l).length ≤ l.length := by
  unfold unsg Lib.trimPrefix
  split
  · rw [List.length_drop]; omega
  · exact Nat.le_refl _

/-- What read tells, as the model has it. -/
def rdV (s : ByteArray) : Value := .tuple #[tokV ((rd s.data.toList).2.1 : Nat) (if (rd s.data.toList).1 = 0 then s else ⟨#[]⟩) (rd s.data.toList).2.2 0 0, .int .i64 ((rd s.data.toList).1 : Nat)]

/-- A variable of a token's type: its five cells. -/
structure TBox (g : Nat) (v0 v1 v2 v3 v4 : Value) (w : World) : Prop where
  mk ::
  c0 : w.cell? ⟨g, 0, none⟩ = some v0
  c1 : w.cell? ⟨g, 1, none⟩ = some v1
  c2 : w.cell? ⟨g, 2, none⟩ = some v2
  c3 : w.cell? ⟨g, 3, none⟩ = some v3
  c4 : w.cell? ⟨g, 4, none⟩ = some v4
  f0 : w.frozen? ⟨g, 0, none⟩ = false
  f1 : w.frozen? ⟨g, 1, none⟩ = false
  f2 : w.frozen? ⟨g, 2, none⟩ = false
  f3 : w.frozen? ⟨g, 3, none⟩ = false
  f4 : w.frozen? ⟨g, 4, none⟩ = false
  size : g < w.heap.size
theorem TBox.next {g : Nat} {v0 v1 v2 v3 v4 : Value} {w w' : World} (h : TBox g v0 v1 v2 v3 v4 w) (hb : Below w.heap.size w w') : TBox g v0 v1 v2 v3 v4 w' :=
  ⟨(hb.cell (by exact h.size)).trans h.c0, (hb.cell (by exact h.size)).trans h.c1, (hb.cell (by exact h.size)).trans h.c2, (hb.cell (by exact h.size)).trans h.c3, (hb.cell (by exact h.size)).trans h.c4,
   (hb.frozen (by exact h.size)).trans h.f0, (hb.frozen (by exact h.size)).trans h.f1, (hb.frozen (by exact h.size)).trans h.f2, (hb.frozen (by exact h.size)).trans h.f3, (hb.frozen (by exact h.size)).trans h.f4, Nat.lt_of_lt_of_le h.size hb.size⟩
theorem tbox_new (w : World) (v0 v1 v2 v3 v4 : Value) (t : TypeId) : TBox w.heap.size v0 v1 v2 v3 v4 (w.alloc (.cells #[v0, v1, v2, v3, v4] t)) :=
  ⟨by simp [go_sem], by simp [go_sem], by simp [go_sem], by simp [go_sem], by simp [go_sem], by simp [go_sem], by simp [go_sem], by simp [go_sem], by simp [go_sem], by simp [go_sem], by simp⟩

theorem read_any (s : ByteArray) (hs : s.size ≤ 281474976710656) (hu : unsg s.data.toList ≠ []) (w : World) (hL : LibOk w) :
    Calls Tryz.prog 81 #[.string s] w fun e w' => e = .returned (rdV s) ∧ Below w.heap.size w w' := by
  have L1 := leadL s hs
  have T1 := trimMinus_any s
  have e1 := take_all_len (p := isL) (l := s.data.toList)
  rw [size_list] at e1
  have hU := ba_list (unsg s.data.toList)
  have hUs := ba_size (unsg s.data.toList)
  have hUl := unsg_len s.data.toList
  rw [size_list] at hUl
  have L2 := leadD ⟨(unsg s.data.toList).toArray⟩ (by rw [hUs]; omega)
  rw [hU] at L2
  have e2 := take_all_len (p := isD) (l := unsg s.data.toList)
  have e3 : ((unsg s.data.toList).takeWhile isD).length ≤ (unsg s.data.toList).length := by
    have := take_drop_len isD (unsg s.data.toList)
    omega
  rw [← hUs] at e2 e3
  by_cases h1 : s.data.toList.all isL = true ∧ s.data.toList.length ≤ 32
  · obtain ⟨ha, hl⟩ := h1
    have hV : rdV s = .tuple #[tokV 0 s 0 0 0, .int .i64 0] := by unfold rdV; rw [rd_word ha hl]; rfl
    rw [hV]
    rw [e1.2 ha] at L1
    rw [size_list] at hl
    clear e1 ha hV e2 e3 L2 T1 hU hUs hUl hu hL
    go_enter Tryz.func81, Tryz.ntmps81
    go_wp2_with fail
    with_reducible refine (L1 _).mono ?_
    rintro e w1 ⟨rfl, b1⟩
    obtain ⟨c0, c1, c2, c3, c4, f0, f1, f2, f3, f4, hz⟩ := (tbox_new w _ _ _ _ _ _).next b1
    have B1 : Below w.heap.size w w1 := onL (new_belowL w _) b1
    clear b1
    go_wp2
    refine bodyPost_ret (v := .tuple #[tokV 0 s 0 0 0, .int .i64 0]) (by simp [results, Tryz.results81, go_sem, tokV, c0, c1, c2, c3, c4]) rfl ⟨rfl, ?_⟩
    go_grown
  by_cases h2 : (unsg s.data.toList).all isD = true
  · have hp := parse_val hu h2
    have hr := rd_num hu h2
    have hn : ¬ (((s.data.toList.takeWhile isL).length : Int) = (s.size : Int)) := by
      intro h
      have := e1.1 (by omega)
      rw [all_ne hu this] at h2
      cases h2
    rw [e2.2 h2] at L2
    generalize (s.data.toList.takeWhile isL).length = n at L1 hn
    generalize (⟨(unsg s.data.toList).toArray⟩ : ByteArray) = U at L2 T1 hUs
    by_cases h3 : -9223372036854775808 ≤ valW s.data.toList ∧ valW s.data.toList ≤ 9223372036854775807
    · rw [if_pos h3] at hp hr
      have P := pint_ok s hs _ hp
      have hV : rdV s = .tuple #[tokV 1 s (valW s.data.toList) 0 0, .int .i64 0] := by unfold rdV; rw [hr]; rfl
      rw [hV]
      generalize valW s.data.toList = v at P h3
      clear e1 e2 e3 hU hUl hu hp hr hV h1 h2 hL hUs
      go_enter Tryz.func81, Tryz.ntmps81
      go_wp2_with fail
      with_reducible refine (L1 _).mono ?_
      rintro e w1 ⟨rfl, b1⟩
      have X1 := (tbox_new w _ _ _ _ _ _).next b1
      have B1 : Below w.heap.size w w1 := onL (new_belowL w _) b1
      clear b1
      go_wp2_with fail
      with_reducible refine (T1 _).mono ?_
      rintro e w2 ⟨rfl, rfl⟩
      go_wp2_with fail
      with_reducible refine (L2 _).mono ?_
      rintro e w3 ⟨rfl, b3⟩
      have X3 := X1.next b3
      have B3 := onL B1 b3
      clear b3 X1 B1
      go_wp2_with fail
      with_reducible refine (P _).mono ?_
      rintro e w4 ⟨rfl, b4⟩
      obtain ⟨c0, c1, c2, c3, c4, f0, f1, f2, f3, f4, hz⟩ := X3.next b4
      have B4 := onL B3 b4
      clear b4 X3 B3
      go_wp2
      refine bodyPost_ret (v := .tuple #[tokV 1 s v 0 0, .int .i64 0]) (by simp [results, Tryz.results81, go_sem, tokV, c0, c1, c2, c3, c4]) rfl ⟨rfl, ?_⟩
      go_grown
    · rw [if_neg h3] at hp hr
      have P := fun W hW => pint_no s hs hp W hW
      have hV : rdV s = .tuple #[tokV 0 ⟨#[]⟩ 0 0 0, .int .i64 5] := by unfold rdV; rw [hr]; rfl
      rw [hV]
      clear e1 e2 e3 hU hUl hu hp hr hV h1 h2 h3 hUs
      go_enter Tryz.func81, Tryz.ntmps81
      go_wp2_with fail
      with_reducible refine (L1 _).mono ?_
      rintro e w1 ⟨rfl, b1⟩
      have X1 := (tbox_new w _ _ _ _ _ _).next b1
      have B1 : Below w.heap.size w w1 := onL (new_belowL w _) b1
      clear b1
      go_wp2_with fail
      with_reducible refine (T1 _).mono ?_
      rintro e w2 ⟨rfl, rfl⟩
      go_wp2_with fail
      with_reducible refine (L2 _).mono ?_
      rintro e w3 ⟨rfl, b3⟩
      have X3 := X1.next b3
      have B3 := onL B1 b3
      clear b3 X1 B1
      go_wp2_with fail
      with_reducible refine (P _ (hL.below B3)).mono ?_
      rintro e w4 ⟨u, N, rfl, b4⟩
      obtain ⟨c0, c1, c2, c3, c4, f0, f1, f2, f3, f4, hz⟩ := X3.next b4
      have B4 := onL B3 b4
      clear b4 X3 B3
      go_wp2
      refine bodyPost_ret (v := .tuple #[tokV 0 ⟨#[]⟩ 0 0 0, .int .i64 5]) (by simp [results, Tryz.results81, go_sem, tokV, c0, c1, c2, c3, c4]) rfl ⟨rfl, ?_⟩
      go_grown
  · have hn : ¬ (((s.data.toList.takeWhile isL).length : Int) = (s.size : Int) ∧ (s.size : Int) ≤ 32) := by
      rintro ⟨h, h'⟩
      exact h1 ⟨e1.1 (by omega), by rw [size_list]; omega⟩
    have hr := rd_mixed h1 (by simpa using h2)
    have hV : rdV s = .tuple #[tokV 0 ⟨#[]⟩ 0 0 0, .int .i64 21] := by unfold rdV; rw [hr]; rfl
    rw [hV]
    have hlt : ((unsg s.data.toList).takeWhile isD).length < (⟨(unsg s.data.toList).toArray⟩ : ByteArray).size := by
      rcases Nat.lt_or_ge ((unsg s.data.toList).takeWhile isD).length (⟨(unsg s.data.toList).toArray⟩ : ByteArray).size with h | h
      · exact h
      · exact absurd (e2.1 (by omega)) h2
    generalize (s.data.toList.takeWhile isL).length = n at L1 hn
    generalize ((unsg s.data.toList).takeWhile isD).length = m at L2 hlt
    generalize (⟨(unsg s.data.toList).toArray⟩ : ByteArray) = U at L2 T1 hlt
    clear e1 e2 e3 hU hUl hu hr hV h1 h2 hUs hL
    by_cases hq : (n : Int) = (s.size : Int)
    all_goals
      go_enter Tryz.func81, Tryz.ntmps81
      go_wp2_with fail
      with_reducible refine (L1 _).mono ?_
      rintro e w1 ⟨rfl, b1⟩
      have X1 := (tbox_new w _ _ _ _ _ _).next b1
      have B1 : Below w.heap.size w w1 := onL (new_belowL w _) b1
      clear b1
      go_wp2_with fail
      with_reducible refine (T1 _).mono ?_
      rintro e w2 ⟨rfl, rfl⟩
      go_wp2_with fail
      with_reducible refine (L2 _).mono ?_
      rintro e w3 ⟨rfl, b3⟩
      obtain ⟨c0, c1, c2, c3, c4, f0, f1, f2, f3, f4, hz⟩ := X1.next b3
      have B3 := onL B1 b3
      clear b3 X1 B1
      go_wp2
      refine bodyPost_ret (v := .tuple #[tokV 0 ⟨#[]⟩ 0 0 0, .int .i64 21]) (by simp [results, Tryz.results81, go_sem, tokV, c0, c1, c2, c3, c4]) rfl ⟨rfl, ?_⟩
      go_grown
/-! ### first -/
theorem extract_list (s : ByteArray) (k : Nat) : (s.extract 0 k).data.toList = s.data.toList.take k := by
  rw [ByteArray.data_extract, Array.toList_extract]
  simp [List.extract]
theorem take_pre (p : UInt8 → Bool) : ∀ (l : List UInt8), l.take (l.takeWhile p).length = l.takeWhile p
  | [] => rfl
  | a :: l => by
    rw [List.takeWhile_cons]
    cases p a
    · rfl
    · simp [take_pre p l]
/-- What first tells, as the model has it. -/
def firstV (s : ByteArray) : Value := .tuple #[tokV ((tk s.data.toList).2.1 : Nat) (if (tk s.data.toList).1 = 0 then s.extract 0 (tk s.data.toList).2.2.1 else ⟨#[]⟩) (tk s.data.toList).2.2.2 0 0, .int .i64 ((tk s.data.toList).1 : Nat)]
theorem begins_no {a : UInt8} {r : List UInt8} (h : ¬ (begins a r = true)) : isA a = false ∧ (a = 45 → (r.takeWhile isD).length = 0) := by
  unfold begins at h
  simp only [Bool.or_eq_true, Bool.and_eq_true, beq_iff_eq, not_or, not_and] at h
  refine ⟨by simpa using h.1, fun ha => ?_⟩
  have h2 := h.2 ha
  cases r with
  | nil => rfl
  | cons b r =>
    have h3 : isD b = false := by simpa using h2
    rw [List.takeWhile_cons, h3]
    rfl
theorem begins_yes {a : UInt8} {r : List UInt8} (h : begins a r = true) : (a ≠ 45 ∧ isA a = true) ∨ (a = 45 ∧ 1 ≤ (r.takeWhile isD).length ∧ 1 ≤ (r.takeWhile isA).length) := by
  unfold begins at h
  simp only [Bool.or_eq_true, Bool.and_eq_true, beq_iff_eq] at h
  rcases h with h | ⟨ha, h⟩
  · exact .inl ⟨(isA_low h).2.2.2, h⟩
  · right
    cases r with
    | nil => cases h
    | cons b r =>
      have h4 : isD b = true := h
      have h5 : isA b = true := by unfold isA; rw [h4]; simp
      refine ⟨ha, ?_, ?_⟩
      · rw [List.takeWhile_cons, h4]; simp
      · rw [List.takeWhile_cons, h5]; simp

theorem first_any (s : ByteArray) (h0 : 0 < s.size) (hs : s.size ≤ 281474976710656) (w : World) (hL : LibOk w) :
    Calls Tryz.prog 63 #[.string s] w fun e w' => e = .returned (firstV s) ∧ Below w.heap.size w w' := by
  obtain ⟨a, r, hl, ha⟩ := list_head h0
  have h0' : (0 : Int) < (s.size : Int) := by omega
  have T1 := trimMinus_any s
  have hU := ba_list (unsg s.data.toList)
  have hUs := ba_size (unsg s.data.toList)
  have hUl := unsg_len s.data.toList
  have hsz := size_list s
  rw [hsz] at hUl
  have LA := leadA ⟨(unsg s.data.toList).toArray⟩ (by rw [hUs]; omega)
  have LD := leadD ⟨(unsg s.data.toList).toArray⟩ (by rw [hUs]; omega)
  rw [hU] at LA LD
  have n58 := byte_num (a := a) (n := 58) (by omega)
  have n45 := byte_num (a := a) (n := 45) (by omega)
  have hrA := take_drop_len isA (unsg s.data.toList)
  have hrD := take_drop_len isD (unsg s.data.toList)
  by_cases h1 : a = 58
  · have hV : firstV s = .tuple #[tokV 2 (s.extract 0 1) 0 0 0, .int .i64 0] := by
      unfold firstV tk
      rw [hl]
      simp only
      rw [if_pos h1]
      rfl
    have k58 : (a.toNat : Int) = 58 := n58.1 h1
    rw [hV]
    generalize ((unsg s.data.toList).takeWhile isA).length = n at LA hrA
    generalize (⟨(unsg s.data.toList).toArray⟩ : ByteArray) = U at T1 LA
    clear LD hV n58 n45 hU hUs hUl hrA hrD hl h1 hL hsz
    subst ha
    go_enter Tryz.func63, Tryz.ntmps63
    go_wp2_with fail
    with_reducible refine (T1 _).mono ?_
    rintro e w1 ⟨rfl, rfl⟩
    go_wp2_with fail
    with_reducible refine (LA _).mono ?_
    rintro e w3 ⟨rfl, b3⟩
    obtain ⟨c0, c1, c2, c3, c4, f0, f1, f2, f3, f4, hz⟩ := (tbox_new w _ _ _ _ _ _).next b3
    have B3 : Below w.heap.size w w3 := onL (new_belowL w _) b3
    clear b3
    go_wp2
    refine bodyPost_ret (v := .tuple #[tokV 2 (s.extract 0 1) 0 0 0, .int .i64 0]) (by simp [results, Tryz.results63, go_sem, tokV, c0, c1, c2, c3, c4]) rfl ⟨rfl, ?_⟩
    go_grown
  have k58 : ¬ ((a.toNat : Int) = 58) := fun h => h1 (n58.2 h)
  by_cases h2 : begins a r = true
  · have hw : wd s.data.toList = a :: r.takeWhile isA := by rw [hl]; rfl
    have htk : tk s.data.toList = ((rd (wd s.data.toList)).1, (rd (wd s.data.toList)).2.1, (wd s.data.toList).length, (rd (wd s.data.toList)).2.2) := by
      unfold tk
      rw [hl]
      simp only
      rw [if_neg h1, if_pos h2]
    have hK : ∃ K : Nat, K = (wd s.data.toList).length ∧ (s.extract 0 K).data.toList = wd s.data.toList ∧ K ≤ s.size ∧ (unsg s.data.toList).length + K = s.size + ((unsg s.data.toList).takeWhile isA).length ∧ 1 ≤ ((unsg s.data.toList).takeWhile isA).length ∧ (a = 45 → 1 ≤ ((unsg s.data.toList).takeWhile isD).length) ∧ unsg (wd s.data.toList) ≠ [] := by
      refine ⟨_, rfl, ?_⟩
      have hwl : (wd s.data.toList).length = 1 + (r.takeWhile isA).length := by rw [hw, List.length_cons]; omega
      have hrl := take_drop_len isA r
      have hsl : s.size = r.length + 1 := by rw [← hsz, hl]; rfl
      refine ⟨?_, by omega, ?_⟩
      · rw [extract_list, hwl, hl, Nat.add_comm, List.take_succ_cons, take_pre]; rfl
      · rcases begins_yes h2 with ⟨h3, h4⟩ | ⟨h3, h4, h5⟩
        · rw [hwl, hl, (unsg_plain (r := r) h3).1, List.takeWhile_cons, h4]
          refine ⟨by simp only [List.length_cons, if_true]; omega, by simp, fun h => absurd h h3, ?_⟩
          show unsg (a :: _) ≠ []
          rw [(unsg_plain h3).1]
          simp
        · rw [hwl, hl, h3, (unsg_minus r).1]
          refine ⟨by omega, h5, fun _ => h4, ?_⟩
          show unsg (45 :: _) ≠ []
          rw [(unsg_minus _).1]
          intro h
          rw [h] at h5
          simp at h5
    obtain ⟨K, hK1, hK2, hK3, hK4, hK5, hK6, hK7⟩ := hK
    have hV : firstV s = rdV (s.extract 0 K) := by
      unfold firstV rdV
      rw [htk, hK2, ← hK1]
    rw [hV]
    have hXs : (s.extract 0 K).size ≤ 281474976710656 := by rw [ByteArray.size_extract]; omega
    have R := fun W hW => read_any (s.extract 0 K) hXs (by rw [hK2]; exact hK7) W hW
    unfold rdV at R ⊢
    generalize (if (rd (s.extract 0 K).data.toList).1 = 0 then s.extract 0 K else ⟨#[]⟩) = Y at R ⊢
    generalize ((rd (s.extract 0 K).data.toList).2.1 : Nat) = q1 at R ⊢
    generalize ((rd (s.extract 0 K).data.toList).2.2) = q2 at R ⊢
    generalize ((rd (s.extract 0 K).data.toList).1 : Nat) = q3 at R ⊢
    have hX : (s.extract 0 K) = s.extract 0 K := rfl
    generalize ((unsg s.data.toList).takeWhile isA).length = n at LA hrA hK4 hK5
    generalize ((unsg s.data.toList).takeWhile isD).length = m at LD hrD hK6
    rw [← hUs] at hK4 hUl hrA hrD
    generalize (⟨(unsg s.data.toList).toArray⟩ : ByteArray) = U at T1 LA LD hK4 hUl hrA hrD
    have k0 : ¬ ((n : Int) = 0) := by omega
    have hm : (a.toNat : Int) = 45 → ¬ ((m : Int) = 0) := fun h => by have := hK6 (n45.2 h); omega
    have hk : (s.size : Int) - (U.size : Int) + (n : Int) = (K : Int) := by omega
    have hk2 : (0 : Int) ≤ (s.size : Int) - (U.size : Int) := by omega
    clear htk hw hK1 hK2 hK4 hK5 hK6 hK7 hV hl h1 h2 hU hUs hrA hrD n58 n45 hXs hX
    subst ha
    by_cases h45 : (s[0].toNat : Int) = 45
    · have km := hm h45
      clear hm
      go_enter Tryz.func63, Tryz.ntmps63
      go_wp2_with fail
      with_reducible refine (T1 _).mono ?_
      rintro e w1 ⟨rfl, rfl⟩
      go_wp2_with fail
      with_reducible refine (LA _).mono ?_
      rintro e w3 ⟨rfl, b3⟩
      have X3 := (tbox_new w _ _ _ _ _ _).next b3
      have B3 : Below w.heap.size w w3 := onL (new_belowL w _) b3
      clear b3
      go_wp2_with fail
      with_reducible refine (LD _).mono ?_
      rintro e w4 ⟨rfl, b4⟩
      have X4 := X3.next b4
      have B4 := onL B3 b4
      clear b4 X3 B3
      go_wp2_with fail
      with_reducible refine (R _ (hL.below B4)).mono ?_
      rintro e w5 ⟨rfl, b5⟩
      obtain ⟨c0, c1, c2, c3, c4, f0, f1, f2, f3, f4, hz⟩ := X4.next b5
      have B5 := onL B4 b5
      clear b5 X4 B4
      unfold tokV
      go_wp2
      refine bodyPost_ret (v := .tuple #[tokV q1 Y q2 0 0, .int .i64 q3]) (by simp [results, Tryz.results63, go_sem, tokV, c0, c1, c2, c3, c4]) rfl ⟨rfl, ?_⟩
      go_grown
    · clear hm
      go_enter Tryz.func63, Tryz.ntmps63
      go_wp2_with fail
      with_reducible refine (T1 _).mono ?_
      rintro e w1 ⟨rfl, rfl⟩
      go_wp2_with fail
      with_reducible refine (LA _).mono ?_
      rintro e w3 ⟨rfl, b3⟩
      have X3 := (tbox_new w _ _ _ _ _ _).next b3
      have B3 : Below w.heap.size w w3 := onL (new_belowL w _) b3
      clear b3
      go_wp2_with fail
      with_reducible refine (R _ (hL.below B3)).mono ?_
      rintro e w5 ⟨rfl, b5⟩
      obtain ⟨c0, c1, c2, c3, c4, f0, f1, f2, f3, f4, hz⟩ := X3.next b5
      have B5 := onL B3 b5
      clear b5 X3 B3
      unfold tokV
      go_wp2
      refine bodyPost_ret (v := .tuple #[tokV q1 Y q2 0 0, .int .i64 q3]) (by simp [results, Tryz.results63, go_sem, tokV, c0, c1, c2, c3, c4]) rfl ⟨rfl, ?_⟩
      go_grown
  · have hV : firstV s = .tuple #[tokV 0 ⟨#[]⟩ 0 0 0, .int .i64 20] := by
      unfold firstV tk
      rw [hl]
      simp only
      rw [if_neg h1, if_neg h2]
      rfl
    rw [hV]
    obtain ⟨h3, h4⟩ := begins_no h2
    have hor : ((unsg s.data.toList).takeWhile isA).length = 0 ∨ ((a.toNat : Int) = 45 ∧ ((unsg s.data.toList).takeWhile isD).length = 0) := by
      by_cases h45 : a = 45
      · right
        refine ⟨n45.1 h45, ?_⟩
        rw [hl, h45, (unsg_minus r).1]
        exact h4 h45
      · left
        rw [hl, (unsg_plain (r := r) h45).1, List.takeWhile_cons, h3]
        rfl
    generalize ((unsg s.data.toList).takeWhile isA).length = n at LA hrA hor
    generalize ((unsg s.data.toList).takeWhile isD).length = m at LD hrD hor
    generalize (⟨(unsg s.data.toList).toArray⟩ : ByteArray) = U at T1 LA LD
    clear hV n58 n45 hU hUs hUl hrA hrD hl h1 hL hsz h2 h3 h4
    subst ha
    by_cases hn : n = 0
    · subst hn
      go_enter Tryz.func63, Tryz.ntmps63
      go_wp2_with fail
      with_reducible refine (T1 _).mono ?_
      rintro e w1 ⟨rfl, rfl⟩
      go_wp2_with fail
      with_reducible refine (LA _).mono ?_
      rintro e w3 ⟨rfl, b3⟩
      obtain ⟨c0, c1, c2, c3, c4, f0, f1, f2, f3, f4, hz⟩ := (tbox_new w _ _ _ _ _ _).next b3
      have B3 : Below w.heap.size w w3 := onL (new_belowL w _) b3
      clear b3
      go_wp2
      refine bodyPost_ret (v := .tuple #[tokV 0 ⟨#[]⟩ 0 0 0, .int .i64 20]) (by simp [results, Tryz.results63, go_sem, tokV, c0, c1, c2, c3, c4]) rfl ⟨rfl, ?_⟩
      go_grown
    · obtain ⟨h45, rfl⟩ : (s[0].toNat : Int) = 45 ∧ m = 0 := by
        rcases hor with h | h
        · exact absurd h hn
        · exact h
      have k0 : ¬ ((n : Int) = 0) := by omega
      clear hn hor
      go_enter Tryz.func63, Tryz.ntmps63
      go_wp2_with fail
      with_reducible refine (T1 _).mono ?_
      rintro e w1 ⟨rfl, rfl⟩
      go_wp2_with fail
      with_reducible refine (LA _).mono ?_
      rintro e w3 ⟨rfl, b3⟩
      have X3 := (tbox_new w _ _ _ _ _ _).next b3
      have B3 : Below w.heap.size w w3 := onL (new_belowL w _) b3
      clear b3
      go_wp2_with fail
      with_reducible refine (LD _).mono ?_
      rintro e w4 ⟨rfl, b4⟩
      obtain ⟨c0, c1, c2, c3, c4, f0, f1, f2, f3, f4, hz⟩ := X3.next b4
      have B4 := onL B3 b4
      clear b4 X3 B3
      go_wp2
      refine bodyPost_ret (v := .tuple #[tokV 0 ⟨#[]⟩ 0 0 0, .int .i64 20]) (by simp [results, Tryz.results63, go_sem, tokV, c0, c1, c2, c3, c4]) rfl ⟨rfl, ?_⟩
      go_grown
end Go.Proofs.YtbadingdklenhaaGreatDoor
