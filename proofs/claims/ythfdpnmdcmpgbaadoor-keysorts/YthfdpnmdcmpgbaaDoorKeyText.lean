/-
  What a key's Text, the document's Cmp, Less and Text, and the laws' of and wakes do (layer 4). Nothing that was in memory before turns.
-/
import Derived.Test.YthfdpnmdcmpgbaaDoorKeyWalks
import Derived.Test.YthfdpnmdcmpgbaaDoorShelf
import Derived.Test.YthfdpnmdcmpgbaaDoorDigitWalks
import Derived.WalkSmall
import Derived.Lib.ItoaLen
namespace Go.Proofs.YthfdpnmdcmpgbaaDoor
set_option maxRecDepth 100000
open Go.RowKit Go.Sort

/-- The library's table of powers of ten reads as its initialiser lays it. -/
def TabOk (w : World) : Prop := Lib.TabIs Tryd.prog w "internal/strconv.uint64pow10" .u64 Lib.pow10Tab
theorem TabOk.below {w w' : World} (h : TabOk w) (hb : Below w.heap.size w w') : TabOk w' := by
  unfold TabOk Lib.TabIs World.var? at *
  cases hg : Tryd.prog.globalNamed "internal/strconv.uint64pow10" with
  | none => rw [hg] at h; cases h
  | some g =>
    rw [hg] at h
    simp only [Option.bind_some] at h ⊢
    have hlt : g < w.heap.size := by
      rcases Nat.lt_or_ge g w.heap.size with h' | h'
      · exact h'
      · rw [Array.getElem?_eq_none h'] at h; cases h
    rw [hb.block g hlt]
    exact h
theorem format_any (n : Int) (hn : I64 n) (w : World) (hT : TabOk w) :
    Calls Tryd.prog 20 #[.int .i64 n, .int .i64 10] w fun e w' => e = .returned (.string ⟨(Lib.itoa n).toArray⟩) ∧ More w w' := by
  refine (Tryd.strconv_FormatInt_10 n hn.1 hn.2 w hT).mono ?_
  rintro e w' ⟨rfl, k, os, rfl⟩
  exact ⟨rfl, ⟨_, _, rfl⟩⟩
theorem itoa_any (n : Int) (hn : I64 n) (w : World) (hT : TabOk w) :
    Calls Tryd.prog 21 #[.int .i64 n] w fun e w' => e = .returned (.string ⟨(Lib.itoa n).toArray⟩) ∧ More w w' := by
  refine (Tryd.strconv_Itoa n hn.1 hn.2 w hT).mono ?_
  rintro e w' ⟨rfl, k, os, rfl⟩
  exact ⟨rfl, ⟨_, _, rfl⟩⟩
theorem itoa_ba (n : Int) (hn : I64 n) : ∃ A : ByteArray, (⟨(Lib.itoa n).toArray⟩ : ByteArray) = A ∧ A.size ≤ 21 := by
  refine ⟨_, rfl, ?_⟩
  show (Lib.itoa n).toArray.size ≤ 21
  simpa using Lib.itoa_length_le n hn.1 hn.2
/-- A key's signs. -/
def txtK (b d s : Int) : ByteArray := (⟨(Lib.itoa b).toArray⟩ : ByteArray) ++ ⟨#[32]⟩ ++ ⟨(Lib.itoa d).toArray⟩ ++ ⟨#[32]⟩ ++ ⟨(Lib.itoa s).toArray⟩

/-- A key in a block of its own; the world has grown; the table stands. -/
structure KOne (w : World) (g : Nat) (b d s : Int) (wr : World) : Prop where
  mk ::
  A : KBox g b d s wr
  M : More w wr
  T : TabOk wr
theorem KOne.next {w wr w' : World} {g : Nat} {b d s : Int} (k : KOne w g b d s wr) (m : More wr w') : KOne w g b d s w' :=
  ⟨k.A.next m.below, k.M.trans m, k.T.below m.below⟩

set_option maxHeartbeats 1000000 in
theorem text_any (b d s : Int) (hb : I64 b) (hd : I64 d) (hs : I64 s) (w : World) (hT : TabOk w) :
    Calls Tryd.prog 12 #[.agg #[.int .i64 b, .int .i64 d, .int .i64 s]] w fun e w' => e = .returned (.string (txtK b d s)) ∧ More w w' := by
  have C1 := format_any b hb
  have C2 := itoa_any d hd
  have C3 := format_any s hs
  unfold txtK
  obtain ⟨A, hA, sA⟩ := itoa_ba b hb
  obtain ⟨B, hB, sB⟩ := itoa_ba d hd
  obtain ⟨C, hC, sC⟩ := itoa_ba s hs
  rw [hA] at C1 ⊢
  rw [hB] at C2 ⊢
  rw [hC] at C3 ⊢
  have HT := Lib.hid hT
  have n1 : ¬ (9223372036854775807 < A.size + 1) := by omega
  have n2 : ¬ (9223372036854775806 < A.size) := by omega
  have n3 : ¬ (9223372036854775807 < A.size + 1 + B.size) := by omega
  have n4 : ¬ (9223372036854775807 < A.size + 1 + B.size + 1) := by omega
  have n5 : ¬ (9223372036854775806 < A.size + 1 + B.size) := by omega
  have n6 : ¬ (9223372036854775807 < A.size + 1 + B.size + 1 + C.size) := by omega
  clear hA hB hC hT
  go_enter Tryd.func12, Tryd.ntmps12
  go_wp2
  have F := Lib.hid (KOne.mk (w := w) (kbox_new w b d s 25) ((More.refl w).alloc (.cells #[.int .i64 b, .int .i64 d, .int .i64 s] 25)) (HT.out.below ((More.refl w).alloc (.cells #[.int .i64 b, .int .i64 d, .int .i64 s] 25)).below))
  have F := Lib.hid (F.out.next (More.refl _).drew)
  clear HT
  generalize (w.alloc (.cells #[.int .i64 b, .int .i64 d, .int .i64 s] 25)) = w2 at *
  go_region_held3 (fun w' => w'.cell? ⟨w.heap.size, 0, none⟩ = some (.int .i64 b) ∧ w'.cell? ⟨w.heap.size, 1, none⟩ = some (.int .i64 d) ∧ w'.cell? ⟨w.heap.size, 2, none⟩ = some (.int .i64 s)) (exact ⟨F.out.A.c0, F.out.A.c1, F.out.A.c2⟩)
    (first
      | (go_at_call 20; (with_reducible refine (C1 _ F.out.T).mono ?_); rintro e wn ⟨rfl, m⟩; have F := Lib.hid (F.out.next m); clear m)
      | (go_at_call 21; (with_reducible refine (C2 _ F.out.T).mono ?_); rintro e wn ⟨rfl, m⟩; have F := Lib.hid (F.out.next m); clear m)
      | (go_at_call 20; (with_reducible refine (C3 _ F.out.T).mono ?_); rintro e wn ⟨rfl, m⟩; have F := Lib.hid (F.out.next m); clear m))
  all_goals
    go_wp2
    go_ret
    exact ⟨rfl, F.out.M⟩

theorem rcmp_any (x y : En) (w : World) :
    Calls Tryd.prog 9 #[entV x, entV y] w fun e w' => e = .returned (.int .i64 (kcm x.b x.d x.s y.b y.d y.s)) ∧ More w w' := by
  obtain ⟨b, d, s, i⟩ := x
  obtain ⟨b', d', s', i'⟩ := y
  unfold entV
  simp only
  have key : (kcm b d s b' d' s' = -1 ∧ (((b == b') = false ∧ b < b') ∨ (b = b' ∧ (((d == d') = false ∧ d' < d) ∨ (d = d' ∧ (s == s') = false ∧ s < s'))))) ∨ (kcm b d s b' d' s' = 0 ∧ b = b' ∧ d = d' ∧ s = s') ∨ (kcm b d s b' d' s' = 1 ∧ (((b == b') = false ∧ ¬ b < b') ∨ (b = b' ∧ (((d == d') = false ∧ ¬ d' < d) ∨ (d = d' ∧ (s == s') = false ∧ ¬ s < s'))))) := by
    simp only [beq_eq_false_iff_ne]
    rcases kcm_cases b d s b' d' s' with ⟨e, h⟩ | ⟨e, h⟩ | ⟨e, h⟩
    · exact .inl ⟨e, by omega⟩
    · exact .inr (.inl ⟨e, h⟩)
    · exact .inr (.inr ⟨e, by omega⟩)
  have M := Lib.hid (((More.refl w).alloc (.cells #[.int .i64 b, .int .i64 d, .int .i64 s, .int .i64 i] 29)).alloc (.cells #[.int .i64 b', .int .i64 d', .int .i64 s', .int .i64 i'] 29))
  rcases key with ⟨e, ⟨h1, h2⟩ | ⟨h1, ⟨h2, h3⟩ | ⟨h2, h3, h4⟩⟩⟩ | ⟨e, h1, h2, h3⟩ | ⟨e, ⟨h1, h2⟩ | ⟨h1, ⟨h2, h3⟩ | ⟨h2, h3, h4⟩⟩⟩
  all_goals
    rw [e]
    clear e
    try subst h1
    try subst h2
    try subst h3
    go_enter Tryd.func9, Tryd.ntmps9
    go_wp2
    go_ret
    exact ⟨rfl, M.out⟩

theorem of_any (x : En) (w : World) :
    Calls Tryd.prog 6 #[entV x] w fun e w' => e = .returned (entV x) ∧ More w w' := by
  unfold entV
  go_enter Tryd.func6, Tryd.ntmps6
  go_wp2
  exact bodyPost_ret (v := .agg #[.int .i64 x.b, .int .i64 x.d, .int .i64 x.s, .int .i64 x.i]) (by simp [results, Tryd.results6, go_sem]) rfl ⟨rfl, ((More.refl w).alloc _).alloc _⟩
end Go.Proofs.YthfdpnmdcmpgbaaDoor
