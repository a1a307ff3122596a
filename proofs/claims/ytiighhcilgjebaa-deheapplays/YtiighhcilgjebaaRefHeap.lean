/-
  What the document's Less, Push and Pop do (layers 4 and 5): a list in order.
-/
import Derived.Test.YtiighhcilgjebaaDeLaw
namespace Go.Proofs.Ytiighhcilgjebaa
set_option maxRecDepth 100000
open Go.RowKit Go.Sort

theorem rcmp_any (x y : En) (w : World) :
    Calls Try.prog 43 #[entV x, entV y] w fun e w' => e = .returned (.int .i64 (kcm x.b x.d x.s y.b y.d y.s)) ∧ More w w' := by
  obtain ⟨b, d, s, i⟩ := x
  obtain ⟨b', d', s', i'⟩ := y
  unfold entV
  simp only
  have key : (kcm b d s b' d' s' = -1 ∧ (((b == b') = false ∧ b < b') ∨ (b = b' ∧ (((d == d') = false ∧ d' < d) ∨ (d = d' ∧ (s == s') = false ∧ s < s'))))) ∨ (kcm b d s b' d' s' = 0 ∧ b = b' ∧ d = d' ∧ s = s') ∨ (kcm b d s b' d' s' = 1 ∧ (((b == b') = false ∧ ¬ b < b') ∨ (b = b' ∧ (((d == d') = false ∧ ¬ d' < d) ∨ (d = d' ∧ (s == s') = false ∧ ¬ s < s'))))) := by
    simp only [beq_eq_false_iff_ne]
    rcases kcm_cases b d s b' d' s' with ⟨e, h⟩ | ⟨e, h⟩ | ⟨e, h⟩
    · exact .inl ⟨e, by omega⟩
    · exact .inr (.inl ⟨e, h⟩)
    · exact .inr (.inr ⟨e, by omega⟩)
  have M := Lib.hid (((More.refl w).alloc (.cells #[.int .i64 b, .int .i64 d, .int .i64 s, .int .i64 i] 81)).alloc (.cells #[.int .i64 b', .int .i64 d', .int .i64 s', .int .i64 i'] 81))
  rcases key with ⟨e, ⟨h1, h2⟩ | ⟨h1, ⟨h2, h3⟩ | ⟨h2, h3, h4⟩⟩⟩ | ⟨e, h1, h2, h3⟩ | ⟨e, ⟨h1, h2⟩ | ⟨h1, ⟨h2, h3⟩ | ⟨h2, h3, h4⟩⟩⟩
  all_goals
    rw [e]
    clear e
    try subst h1
    try subst h2
    try subst h3
    go_enter Try.func43, Try.ntmps43
    go_wp2
    go_ret
    exact ⟨rfl, M.out⟩

theorem rless_any (x y : En) (w : World) :
    Calls Try.prog 36 #[entV x, entV y] w fun e w' => e = .returned (.bool (eltB x y)) ∧ More w w' := by
  have C := rcmp_any x y
  have F := ETwo.mk (w := w) ((ebox_new w x.b x.d x.s x.i 81).next (More.alloc (More.refl _) (.cells #[.int .i64 y.b, .int .i64 y.d, .int .i64 y.s, .int .i64 y.i] 81)).below) (by have h := ebox_new (w.alloc (.cells #[.int .i64 x.b, .int .i64 x.d, .int .i64 x.s, .int .i64 x.i] 81)) y.b y.d y.s y.i 81; rw [World.size_alloc] at h; exact h) (((More.refl w).alloc _).alloc _)
  have F2 := Lib.hid F
  clear F
  have key : (kcm x.b x.d x.s y.b y.d y.s = -1 ∧ eltB x y = true) ∨ (kcm x.b x.d x.s y.b y.d y.s = 0 ∧ ((x.i < y.i ∧ eltB x y = true) ∨ (¬ x.i < y.i ∧ eltB x y = false))) ∨ (kcm x.b x.d x.s y.b y.d y.s = 1 ∧ eltB x y = false) := by
    unfold eltB ecm
    rcases kcm_range x.b x.d x.s y.b y.d y.s with e | e | e
    · left; rw [e, orI_m]; simp
    · right; left
      rw [e, orI_zero]
      rcases cmp3_cases x.i y.i with ⟨e1, h1⟩ | ⟨e1, h1⟩ | ⟨e1, h1⟩
      · exact ⟨rfl, .inl ⟨h1, by rw [e1]; simp⟩⟩
      · exact ⟨rfl, .inr ⟨by omega, by rw [e1]; simp⟩⟩
      · exact ⟨rfl, .inr ⟨by omega, by rw [e1]; simp⟩⟩
    · right; right; rw [e, orI_p]; simp
  unfold entV at *
  rcases key with ⟨h1, h2⟩ | ⟨h1, ⟨h3, h2⟩ | ⟨h3, h2⟩⟩ | ⟨h1, h2⟩
  all_goals
    rw [h2]
    rw [h1] at C
    clear h1 h2
    go_enter Try.func36, Try.ntmps36
    go_wp2_with fail
    with_reducible refine (C _).mono ?_
    rintro e w2 ⟨rfl, m2⟩
    obtain ⟨⟨a0, a1, a2, a3, az⟩, ⟨b0, b1, b2, b3, bz⟩, M⟩ := F2.out.next m2
    clear m2
    go_wp2
    go_ret
    first | exact ⟨rfl, M⟩ | exact ⟨congrArg (fun b => Ending.returned (.bool b)) (decide_eq_false (Int.not_lt.2 h3)), M⟩

theorem less5_any (x y : En) (w : World) :
    Calls Try.prog 25 #[entV x, entV y] w fun e w' => e = .returned (.bool (eltB x y)) ∧ More w w' := by
  have C := rless_any x y
  have M := Lib.hid (((More.refl w).alloc (.cells #[.int .i64 x.b, .int .i64 x.d, .int .i64 x.s, .int .i64 x.i] 35)).alloc (.cells #[.int .i64 y.b, .int .i64 y.d, .int .i64 y.s, .int .i64 y.i] 35))
  unfold entV at *
  go_enter Try.func25, Try.ntmps25
  go_wp2_with fail
  with_reducible refine (C _).mono ?_
  rintro e w2 ⟨rfl, m2⟩
  have M2 := Lib.hid (M.out.trans m2)
  clear m2 M C
  go_wp2
  go_ret
  exact ⟨rfl, M2.out⟩

/-- A list with one more: ahead of the first that comes behind it. -/
def insE (x : En) : List En → List En
  | [] => [x]
  | y :: r => if eltB x y then x :: y :: r else y :: insE x r
theorem insE_perm (x : En) : ∀ l, (insE x l).Perm (x :: l)
  | [] => List.Perm.refl _
  | y :: r => by
    unfold insE
    split
    · exact List.Perm.refl _
    · exact ((insE_perm x r).cons y).trans (List.Perm.swap x y r)
theorem insE_length (x : En) (l : List En) : (insE x l).length = l.length + 1 := by rw [(insE_perm x l).length_eq]; rfl
theorem insE_srt {x : En} : ∀ {l : List En}, Srt l → Srt (insE x l)
  | [], _ => by simp [insE, Srt]
  | y :: r, h => by
    unfold Srt at h
    obtain ⟨h1, h2⟩ := List.pairwise_cons.1 h
    unfold insE
    cases hc : eltB x y with
    | true =>
      rw [if_pos rfl]
      have hxy := (eltB_iff _ _).1 hc
      refine List.pairwise_cons.2 ⟨fun z hz => ?_, h⟩
      rcases List.mem_cons.1 hz with rfl | hz
      · exact elt_asymm hxy
      · intro hzx
        exact h1 z hz (elt_trans hzx hxy)
    | false =>
      rw [if_neg (by simp)]
      have hxy := (eltB_false _ _).1 hc
      refine List.pairwise_cons.2 ⟨fun z hz => ?_, insE_srt h2⟩
      rcases List.mem_cons.1 ((insE_perm x r).mem_iff.1 hz) with rfl | hz
      · exact hxy
      · exact h1 z hz
theorem insE_eq (x : En) (l : List En) : insE x (srt l) = srt (x :: l) :=
  srt_unique ((insE_perm x _).trans ((srt_perm l).cons x)) (insE_srt (srt_srt l))
theorem insE_none {x : En} : ∀ {p : List En}, (∀ y ∈ p, eltB x y = false) → insE x p = p ++ [x]
  | [], _ => rfl
  | y :: r, h => by
    unfold insE
    rw [h y (by simp), if_neg (by simp), insE_none (fun z hz => h z (by simp [hz]))]
    rfl
theorem insE_first {x y : En} : ∀ {p : List En}, (∀ z ∈ p, eltB x z = false) → eltB x y = true → insE x (p ++ [y]) = p ++ [x] ++ [y]
  | [], _, h => by simp [insE, h]
  | z :: r, h, hy => by
    show insE x (z :: (r ++ [y])) = _
    unfold insE
    rw [h z (by simp), if_neg (by simp), insE_first (fun q hq => h q (by simp [hq])) hy]
    rfl
theorem insE_more {x y : En} : ∀ {p : List En}, (∃ z ∈ p, eltB x z = true) → insE x (p ++ [y]) = insE x p ++ [y]
  | [], h => by obtain ⟨z, hz, _⟩ := h; simp at hz
  | z :: r, h => by
    show insE x (z :: (r ++ [y])) = insE x (z :: r) ++ [y]
    unfold insE
    cases hz : eltB x z with
    | true => rfl
    | false =>
      rw [if_neg (by simp), if_neg (by simp), insE_more]
      · rfl
      · obtain ⟨q, hq, hq'⟩ := h
        rcases List.mem_cons.1 hq with rfl | hq
        · rw [hz] at hq'; cases hq'
        · exact ⟨q, hq, hq'⟩
/-- What the loop of Push has put: o, with x among it (pb) or not. -/
structure InsSt (x : En) (p : List En) (pb : Bool) (o : List En) : Prop where
  mk ::
  no : pb = false → o = p ∧ ∀ y ∈ p, eltB x y = false
  yes : pb = true → o = insE x p ∧ ∃ y ∈ p, eltB x y = true
theorem InsSt.start (x : En) : InsSt x [] false [] := ⟨fun _ => ⟨rfl, by simp⟩, (fun h => by cases h)⟩
theorem InsSt.put {x y : En} {p o : List En} (h : InsSt x p false o) (hy : eltB x y = true) : InsSt x (p ++ [y]) true (o ++ [x] ++ [y]) := by
  obtain ⟨rfl, h2⟩ := h.no rfl
  exact ⟨(fun h => by cases h), fun _ => ⟨(insE_first h2 hy).symm, y, by simp, hy⟩⟩
theorem InsSt.go {x y : En} {p o : List En} {pb : Bool} (h : InsSt x p pb o) (hy : pb = true ∨ eltB x y = false) : InsSt x (p ++ [y]) pb (o ++ [y]) := by
  cases pb with
  | true =>
    obtain ⟨rfl, h2⟩ := h.yes rfl
    refine ⟨(fun h => by cases h), fun _ => ⟨(insE_more h2).symm, ?_⟩⟩
    obtain ⟨z, hz, hz'⟩ := h2
    exact ⟨z, by simp [hz], hz'⟩
  | false =>
    obtain ⟨rfl, h2⟩ := h.no rfl
    have hy' : eltB x y = false := hy.resolve_left (by simp)
    refine ⟨fun _ => ⟨rfl, fun z hz => ?_⟩, (fun h => by cases h)⟩
    rcases List.mem_append.1 hz with hz | hz
    · exact h2 z hz
    · simp at hz; subst hz; exact hy'
theorem InsSt.end_no {x : En} {p o : List En} (h : InsSt x p false o) : o ++ [x] = insE x p := by
  obtain ⟨rfl, h2⟩ := h.no rfl
  exact (insE_none h2).symm
theorem InsSt.end_yes {x : En} {p o : List En} (h : InsSt x p true o) : o = insE x p := (h.yes rfl).1

/-- A list of the document's, wherever it begins in its block. -/
structure DocL (w : World) (v : Value) (l : List En) : Prop where
  mk ::
  at_ : ∃ p c, v = .slice p l.length c ∧ l.length ≤ c ∧ (0 < l.length → ∃ b off, p = some ⟨b, off, none⟩ ∧ (∃ cur f, w.heap[b]? = some (.cells cur 35 f)) ∧ ∀ i, i < l.length → w.cell? ⟨b, off + i * 4, none⟩ = some (.int .i64 (nth l i).b) ∧ w.cell? ⟨b, off + i * 4 + 1, none⟩ = some (.int .i64 (nth l i).d) ∧ w.cell? ⟨b, off + i * 4 + 2, none⟩ = some (.int .i64 (nth l i).s) ∧ w.cell? ⟨b, off + i * 4 + 3, none⟩ = some (.int .i64 (nth l i).i))
theorem DocL.kept {w w' : World} {v : Value} {l : List En} (h : DocL w v l) (hk : ∀ (b : Nat) (cur : Array Value) (f : Nat × Nat), w.heap[b]? = some (Obj.cells cur 35 f) → w'.heap[b]? = w.heap[b]?) : DocL w' v l := by
  obtain ⟨p, c, h1, h2, h3⟩ := h.at_
  refine ⟨p, c, h1, h2, fun h0 => ?_⟩
  obtain ⟨b, off, q1, ⟨cur, f, q2⟩, q3⟩ := h3 h0
  have e := hk b cur f q2
  refine ⟨b, off, q1, ⟨cur, f, by rw [e]; exact q2⟩, fun i hi => ?_⟩
  have c : ∀ o, w'.cell? ⟨b, o, none⟩ = w.cell? ⟨b, o, none⟩ := fun o => World.cell?_of_block (by exact e)
  rw [c, c, c, c]
  exact q3 i hi
theorem DocL.next {w w' : World} {v : Value} {l : List En} (h : DocL w v l) (hb : Below w.heap.size w w') : DocL w' v l :=
  h.kept fun b _ _ q => hb.block b (Array.getElem?_eq_some_iff.1 q).1
theorem DocL.off {w w' : World} {v u : Value} {l m : List En} {B hb : Nat} (h : DocL w v l) (hh : HeapAt w B hb u m) (ho : Off w hb u w') : DocL w' v l := by
  refine h.kept fun b cur f q => ho.block b (Array.getElem?_eq_some_iff.1 q).1 ?_ ?_
  · rintro rfl
    rw [hh.blk] at q
    simp at q
  · intro e
    rcases hh.row.2 with ⟨rfl, _⟩ | ⟨g, cap, cur', rfl, _, hg, _⟩
    · simp [Value.ownBlock] at e
    · simp [Value.ownBlock] at e
      subst e
      rw [hg] at q
      simp at q
theorem DocL.nil (w : World) : DocL w (.slice none 0 0) [] := ⟨none, 0, rfl, Nat.le_refl _, fun h => absurd h (by simp)⟩
theorem docL_own {w : World} {B n : Nat} {v : Value} {l : List En} (h : w.ownsRow B 35 4 v n (flatE l)) (hn : l.length = n) : DocL w v l := by
  subst hn
  rcases h.2 with ⟨rfl, h0⟩ | ⟨g, cap, cur, rfl, _, hg, hc, _⟩
  · rw [List.eq_nil_of_length_eq_zero h0]; exact DocL.nil w
  · refine ⟨_, _, rfl, hc, fun _ => ⟨g, 0, rfl, ⟨_, _, hg⟩, fun i hi => ?_⟩⟩
    have := (own_list h).nth hi
    rw [Nat.zero_add]
    exact this
end Go.Proofs.Ytiighhcilgjebaa
