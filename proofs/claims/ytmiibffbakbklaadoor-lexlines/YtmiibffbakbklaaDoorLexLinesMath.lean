/-
  What LexLines wants of texts: no line feed behind a replacement; how far a line can be; two texts with a line between them.
-/
import Derived.Test.YtmiibffbakbklaaDoorLexValid
import Derived.Test.YtmiibffbakbklaaDoorLexWake
import Derived.Lib.Replace
import Derived.Lib.IndexBytes
import Derived.Lib.SplitLaws
namespace Go.Proofs.YtmiibffbakbklaaDoor
open Go

theorem rep_no : ∀ (k : Nat) (l : List UInt8), l.count 10 = k → (Lib.replaceK [10] [32] k l).length = l.length ∧ ∀ b ∈ Lib.replaceK [10] [32] k l, b ≠ 10
  | 0, l, h => by
    refine ⟨rfl, fun b hb e => ?_⟩
    subst e
    have hp : 0 < l.count 10 := List.count_pos_iff.2 (show (10 : UInt8) ∈ l from hb)
    omega
  | k + 1, l, h => by
    have hc : Lib.count l [10] = k + 1 := by rw [Lib.count_one, h]
    obtain ⟨i, hi⟩ := Lib.index_of_count (s := l) (old := [10]) (by omega)
    rw [Lib.replaceK_hit [10] [32] k l i hi, show i + [(10 : UInt8)].length = i + 1 from rfl]
    rw [Lib.index_one] at hi
    obtain ⟨h1, h2⟩ := Lib.indexByte_some hi
    have hlt := (List.getElem?_eq_some_iff.1 h1).1
    have hno : ∀ b ∈ l.take i, b ≠ 10 := by
      intro b hb e
      obtain ⟨j, hj⟩ := List.getElem?_of_mem hb
      rw [List.getElem?_take] at hj
      split at hj
      · rename_i hji
        exact h2 j hji (by rw [hj, e])
      · cases hj
    have hcnt : (l.drop (i + 1)).count 10 = k := by
      have e1 : l = l.take i ++ 10 :: l.drop (i + 1) := by
        have h3 : l[i] = 10 := by
          rw [List.getElem?_eq_getElem hlt] at h1
          exact Option.some.inj h1
        rw [← h3, ← List.drop_eq_getElem_cons hlt, List.take_append_drop]
      have e2 := congrArg (List.count 10) e1
      rw [List.count_append, List.count_cons_self, List.count_eq_zero.2 (fun hm => hno 10 hm rfl), h] at e2
      omega
    obtain ⟨h4, h5⟩ := rep_no k (l.drop (i + 1)) hcnt
    refine ⟨?_, ?_⟩
    · simp only [List.length_append, h4, List.length_take, List.length_drop, List.length_cons, List.length_nil]
      omega
    · intro b hb
      rcases List.mem_append.1 hb with hb | hb
      · rcases List.mem_append.1 hb with hb | hb
        · exact hno b hb
        · rw [List.mem_singleton.1 hb]; decide
      · exact h5 b hb
theorem rep_all (l : List UInt8) : (Lib.replaceAll l [10] [32]).length = l.length ∧ ∀ b ∈ Lib.replaceAll l [10] [32], b ≠ 10 := by
  unfold Lib.replaceAll Lib.replace
  rw [if_neg (by decide)]
  unfold Lib.replaceNum
  rw [if_pos (.inl (by omega))]
  exact rep_no _ l (by rw [Lib.count_one])

/-- How far a line can be. -/
theorem lx_lines_le : ∀ (n : Nat) (l : List UInt8), l.length ≤ n → ∀ line col rm, (∀ x ∈ (lx l line col rm).toks, x.line ≤ line + l.length) ∧ (lx l line col rm).line ≤ line + l.length := by
  intro n
  induction n with
  | zero =>
    intro l hl line col rm
    obtain rfl : l = [] := List.eq_nil_of_length_eq_zero (by omega)
    refine ⟨fun x hx => ?_, by show 0 ≤ _; omega⟩
    have : x = ⟨3, [], 0, line, col⟩ := List.mem_singleton.1 hx
    rw [this]
    exact Nat.le_refl _
  | succ n ih =>
    intro l hl line col rm
    cases l with
    | nil =>
      refine ⟨fun x hx => ?_, by show 0 ≤ _; omega⟩
      have : x = ⟨3, [], 0, line, col⟩ := List.mem_singleton.1 hx
      rw [this]
      exact Nat.le_refl _
    | cons a r =>
      simp only [List.length_cons] at hl ⊢
      have wk : ∀ (R : Rs) (line' m : Nat), line' + m ≤ line + (r.length + 1) → ((∀ x ∈ R.toks, x.line ≤ line' + m) ∧ R.line ≤ line' + m) → (∀ x ∈ R.toks, x.line ≤ line + (r.length + 1)) ∧ R.line ≤ line + (r.length + 1) :=
        fun R line' m hm h => ⟨fun x hx => Nat.le_trans (h.1 x hx) hm, Nat.le_trans h.2 hm⟩
      rw [lx_cons]
      by_cases h0 : pt (a :: r) = 0
      · rw [if_pos h0]; exact ⟨fun x hx => absurd hx List.not_mem_nil, by show line ≤ _; omega⟩
      rw [if_neg h0]
      by_cases h10 : a = 10
      · rw [if_pos h10]
        exact wk _ (line + 1) r.length (by omega) (ih r (by omega) _ _ _)
      rw [if_neg h10]
      by_cases hb : (rm || isB a) = true
      · rw [if_pos hb]
        have := ih (r.drop (pt (a :: r) - 1)) (by rw [List.length_drop]; omega) line (col + 1) (rm || a == 35)
        exact wk _ line _ (by rw [List.length_drop]; omega) this
      rw [if_neg hb]
      by_cases ht : (tk (a :: r)).1 = 0
      · rw [if_neg (show ¬ ((tk (a :: r)).1 ≠ 0) by omega)]
        have := ih (r.drop ((tk (a :: r)).2.2.1 - 1)) (by rw [List.length_drop]; omega) line (col + (tk (a :: r)).2.2.1) false
        have h1 := wk _ line _ (by rw [List.length_drop]; omega) this
        unfold Rs.pre
        split
        · refine ⟨fun x hx => ?_, h1.2⟩
          rcases List.mem_cons.1 hx with rfl | hx
          · show line ≤ _
            omega
          · exact h1.1 x hx
        · exact h1
      · rw [if_pos ht]; exact ⟨fun x hx => absurd hx List.not_mem_nil, by show line ≤ _; omega⟩

/-- What the law asks of the three answers. -/
def LinesOk (L M N : List Tk) (d : Nat) : Prop := N.length + 1 = L.length + M.length ∧ ∀ i x, N[i]? = some x → (i + 1 < L.length → L[i]? = some x) ∧ (L.length ≤ i + 1 → ∃ y, M[i + 1 - L.length]? = some y ∧ x = { y with line := y.line + d })
theorem lines_two {s note t : List UInt8} (hs : s.length ≤ 3000) (ht : t.length ≤ 3000) (hn : note.length ≤ 60) (hv : Vd note) (he : (lexP s).err = 0) :
    ((lexP t).err ≠ 0 → (lexP (s ++ [32, 35] ++ note ++ [10] ++ t)).err = (lexP t).err ∧ (lexP (s ++ [32, 35] ++ note ++ [10] ++ t)).line = (lexP t).line + (1 + nl s) ∧ (lexP (s ++ [32, 35] ++ note ++ [10] ++ t)).col = (lexP t).col) ∧
    ((lexP t).err = 0 → (lexP (s ++ [32, 35] ++ note ++ [10] ++ t)).err = 0 ∧ LinesOk (lexP s).toks (lexP t).toks (lexP (s ++ [32, 35] ++ note ++ [10] ++ t)).toks (1 + nl s)) := by
  have sh : ∀ l : List UInt8, l.length ≤ 7000 → lexP l = lx l 1 1 false := fun l hl => by unfold lexP; exact if_neg (by omega)
  have e0 : s ++ [32, 35] ++ note ++ [10] ++ t = s ++ 32 :: 35 :: (note ++ 10 :: t) := by simp
  rw [e0, sh s (by omega)] at *
  rw [sh t (by omega), sh _ (by simp only [List.length_append, List.length_cons]; omega)]
  obtain ⟨ts, e, h1, h2⟩ := lex_lines he
  rw [h2 note.length note t hv]
  unfold Rs.pre Rs.shift
  by_cases h3 : (lx t 1 1 false).err = 0
  · refine ⟨fun h => absurd h3 h, fun _ => ?_⟩
    rw [if_pos h3, if_pos h3]
    refine ⟨h3, ?_, ?_⟩
    · rw [h1]
      simp only [List.length_append, List.length_map, List.length_cons, List.length_nil]
      omega
    · intro i x hx
      rw [h1]
      simp only [List.length_append, List.length_cons, List.length_nil]
      refine ⟨fun hi => ?_, fun hi => ?_⟩
      · rw [List.getElem?_append_left (by omega)] at hx ⊢
        exact hx
      · rw [List.getElem?_append_right (by omega), List.getElem?_map] at hx
        cases hy : (lx t 1 1 false).toks[i - ts.length]? with
        | none => rw [hy] at hx; cases hx
        | some y =>
          rw [hy] at hx
          refine ⟨y, ?_, (Option.some.inj hx).symm⟩
          rw [show i + 1 - (ts.length + (0 + 1)) = i - ts.length by omega]
          exact hy
  · refine ⟨fun _ => ?_, fun h => absurd h h3⟩
    rw [if_neg h3, if_neg h3]
    exact ⟨rfl, rfl, rfl⟩
end Go.Proofs.YtmiibffbakbklaaDoor
