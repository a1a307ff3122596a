/-
  Plain mathematics for layer 4 (key): the order of keys and of entries. Nothing of the program is read here.
-/
import Derived.Test.YtiighhcilgjebaaNumMath
import Derived.Sort.LotA
namespace Go.Proofs.Ytiighhcilgjebaa
open Go.RowKit Go.Lib Go.Sort

/-- An entry: Bound, Depth, Seq, ID. -/
structure En where
  b : Int
  d : Int
  s : Int
  i : Int
instance : Inhabited En := ⟨⟨0, 0, 0, 0⟩⟩
/-- Its four cells. -/
def encE (x : En) : List Value := [.int .i64 x.b, .int .i64 x.d, .int .i64 x.s, .int .i64 x.i]
/-- It has a place in memory. -/
def EnOk (x : En) : Prop := I64 x.b ∧ I64 x.d ∧ I64 x.s ∧ I64 x.i

/-- By the keys. -/
def kcm (b d s b' d' s' : Int) : Int := orI (cmp3 b b') (orI (cmp3 d' d) (cmp3 s s'))
/-- Of entries. -/
def ecm (x y : En) : Int := orI (kcm x.b x.d x.s y.b y.d y.s) (cmp3 x.i y.i)
/-- Does x come ahead of y? -/
def eltP (x y : En) : Prop := x.b < y.b ∨ (x.b = y.b ∧ (y.d < x.d ∨ (x.d = y.d ∧ (x.s < y.s ∨ (x.s = y.s ∧ x.i < y.i)))))
def eltB (x y : En) : Bool := decide (ecm x y < 0)

theorem cmp3_cases (x y : Int) : (cmp3 x y = -1 ∧ x < y) ∨ (cmp3 x y = 0 ∧ x = y) ∨ (cmp3 x y = 1 ∧ y < x) := by
  unfold cmp3
  by_cases h1 : x < y
  · left; rw [if_pos h1]; exact ⟨rfl, h1⟩
  · by_cases h2 : y < x
    · right; right; rw [if_neg h1, if_pos h2]; exact ⟨rfl, h2⟩
    · right; left; rw [if_neg h1, if_neg h2]; exact ⟨rfl, by omega⟩
theorem orI_zero (q : Int) : orI 0 q = q := by unfold orI; rw [if_pos rfl]
theorem orI_ne {p : Int} (q : Int) (h : p ≠ 0) : orI p q = p := by unfold orI; rw [if_neg h]
theorem orI_m (q : Int) : orI (-1) q = -1 := orI_ne q (by decide)
theorem orI_p (q : Int) : orI 1 q = 1 := orI_ne q (by decide)

/-- What a key's comparison says. -/
theorem kcm_cases (b d s b' d' s' : Int) :
    (kcm b d s b' d' s' = -1 ∧ (b < b' ∨ (b = b' ∧ (d' < d ∨ (d = d' ∧ s < s'))))) ∨ (kcm b d s b' d' s' = 0 ∧ b = b' ∧ d = d' ∧ s = s') ∨ (kcm b d s b' d' s' = 1 ∧ (b' < b ∨ (b = b' ∧ (d < d' ∨ (d = d' ∧ s' < s))))) := by
  unfold kcm
  rcases cmp3_cases b b' with ⟨e1, h1⟩ | ⟨e1, h1⟩ | ⟨e1, h1⟩
  · left; rw [e1, orI_m]; exact ⟨rfl, .inl h1⟩
  · rcases cmp3_cases d' d with ⟨e2, h2⟩ | ⟨e2, h2⟩ | ⟨e2, h2⟩
    · left; rw [e1, orI_zero, e2, orI_m]; exact ⟨rfl, .inr ⟨h1, .inl h2⟩⟩
    · rcases cmp3_cases s s' with ⟨e3, h3⟩ | ⟨e3, h3⟩ | ⟨e3, h3⟩
      · left; rw [e1, orI_zero, e2, orI_zero, e3]; exact ⟨rfl, .inr ⟨h1, .inr ⟨h2.symm, h3⟩⟩⟩
      · right; left; rw [e1, orI_zero, e2, orI_zero, e3]; exact ⟨rfl, h1, h2.symm, h3⟩
      · right; right; rw [e1, orI_zero, e2, orI_zero, e3]; exact ⟨rfl, .inr ⟨h1, .inr ⟨h2.symm, h3⟩⟩⟩
    · right; right; rw [e1, orI_zero, e2, orI_p]; exact ⟨rfl, .inr ⟨h1, .inl h2⟩⟩
  · right; right; rw [e1, orI_p]; exact ⟨rfl, .inl h1⟩
theorem ecm_cases (x y : En) : (ecm x y = -1 ∧ eltP x y) ∨ (ecm x y = 0 ∧ x = y) ∨ (ecm x y = 1 ∧ eltP y x) := by
  obtain ⟨b, d, s, i⟩ := x
  obtain ⟨b', d', s', i'⟩ := y
  unfold ecm eltP
  simp only
  rcases kcm_cases b d s b' d' s' with ⟨e1, h1⟩ | ⟨e1, h1, h2, h3⟩ | ⟨e1, h1⟩
  · left; rw [e1, orI_m]; refine ⟨rfl, ?_⟩; omega
  · subst h1 h2 h3
    rw [e1, orI_zero]
    rcases cmp3_cases i i' with ⟨e4, h4⟩ | ⟨e4, h4⟩ | ⟨e4, h4⟩
    · left; refine ⟨e4, ?_⟩; omega
    · right; left; subst h4; exact ⟨e4, rfl⟩
    · right; right; refine ⟨e4, ?_⟩; omega
  · right; right; rw [e1, orI_p]; refine ⟨rfl, ?_⟩; omega
theorem elt_irrefl (x : En) : ¬ eltP x x := by unfold eltP; omega
theorem elt_asymm {x y : En} (h : eltP x y) : ¬ eltP y x := by unfold eltP at *; omega
theorem elt_trans {x y z : En} (h : eltP x y) (k : eltP y z) : eltP x z := by unfold eltP at *; omega
theorem elt_total (x y : En) : eltP x y ∨ x = y ∨ eltP y x := by
  rcases ecm_cases x y with ⟨_, h⟩ | ⟨_, h⟩ | ⟨_, h⟩
  · exact .inl h
  · exact .inr (.inl h)
  · exact .inr (.inr h)
theorem eltB_iff (x y : En) : eltB x y = true ↔ eltP x y := by
  unfold eltB
  rcases ecm_cases x y with ⟨e, h⟩ | ⟨e, h⟩ | ⟨e, h⟩
  · simp [e, h]
  · subst h; simp [e, elt_irrefl]
  · simp [e, elt_asymm h]
theorem eltB_false (x y : En) : eltB x y = false ↔ ¬ eltP x y := by
  rw [← eltB_iff]; simp
theorem kcm_self (b d s : Int) : kcm b d s b d s = 0 := by
  rcases kcm_cases b d s b d s with ⟨_, h⟩ | ⟨e, _⟩ | ⟨_, h⟩
  · omega
  · exact e
  · omega
theorem kcm_turn (b d s b' d' s' : Int) : kcm b d s b' d' s' = -kcm b' d' s' b d s := by
  rcases kcm_cases b d s b' d' s' with ⟨e, h⟩ | ⟨e, h⟩ | ⟨e, h⟩ <;> rcases kcm_cases b' d' s' b d s with ⟨e', h'⟩ | ⟨e', h'⟩ | ⟨e', h'⟩ <;> rw [e, e'] <;> omega
theorem kcm_range (b d s b' d' s' : Int) : kcm b d s b' d' s' = -1 ∨ kcm b d s b' d' s' = 0 ∨ kcm b d s b' d' s' = 1 := by
  rcases kcm_cases b d s b' d' s' with ⟨e, _⟩ | ⟨e, _⟩ | ⟨e, _⟩ <;> simp [e]
theorem ecm_range (x y : En) : ecm x y = -1 ∨ ecm x y = 0 ∨ ecm x y = 1 := by
  rcases ecm_cases x y with ⟨e, _⟩ | ⟨e, _⟩ | ⟨e, _⟩ <;> simp [e]

theorem swoE : SWO eltB := {
  irrefl := fun x => by rw [eltB_false]; exact elt_irrefl x
  trans := fun x y z h1 h2 => by rw [eltB_iff] at *; exact elt_trans h1 h2
  ntrans := fun x y z h1 h2 => by
    rw [eltB_false] at *
    intro h
    rcases elt_total x y with k | k | k
    · exact h1 k
    · subst k; exact h2 h
    · exact h2 (elt_trans k h) }
theorem totE (x y : En) (h1 : eltB x y = false) (h2 : eltB y x = false) : x = y := by
  rw [eltB_false] at *
  rcases elt_total x y with k | k | k
  · exact absurd k h1
  · exact k
  · exact absurd k h2

/-- The entries of l in their order. -/
def srt (l : List En) : List En := l.mergeSort fun x y => !eltB y x
/-- In order: none comes ahead of one before it. -/
def Srt (l : List En) : Prop := l.Pairwise fun x y => ¬ eltP y x
theorem srt_srt (l : List En) : Srt (srt l) := by
  have h := List.pairwise_mergeSort (le := fun x y => !eltB y x) (fun a b c h1 h2 => by
    simp only [Bool.not_eq_true', eltB_false] at *
    intro h
    rcases elt_total a b with k | k | k
    · exact h2 (elt_trans h k)
    · subst k; exact h2 h
    · exact h1 k) (fun a b => by
    simp only [Bool.or_eq_true, Bool.not_eq_true', eltB_false]
    rcases elt_total a b with k | k | k
    · exact .inl (elt_asymm k)
    · subst k; exact .inl (elt_irrefl a)
    · exact .inr (elt_asymm k)) l
  exact h.imp (fun h => by simpa [eltB_false] using h)
theorem srt_perm (l : List En) : (srt l).Perm l := List.mergeSort_perm _ _
theorem srt_length (l : List En) : (srt l).length = l.length := (srt_perm l).length_eq
theorem srt_unique {l m : List En} (h1 : m.Perm l) (h2 : Srt m) : m = srt l := by
  have hp : m.Perm (srt l) := h1.trans (srt_perm l).symm
  refine List.Perm.eq_of_pairwise (le := fun x y => ¬ eltP y x) ?_ h2 (srt_srt l) hp
  intro a b _ _ h3 h4
  rcases elt_total a b with k | k | k
  · exact absurd k h4
  · exact k
  · exact absurd k h3
/-- One more is put at its place: it goes ahead of what comes behind it. -/
theorem Srt.step {p q : List En} {x y : En} (h : Srt (p ++ [y] ++ q)) (hq : ∀ z ∈ q, eltP x z) (hxy : eltP x y) : Srt (p ++ (y :: q)) ∧ ∀ z ∈ y :: q, eltP x z := by
  refine ⟨by simpa using h, ?_⟩
  intro z hz
  rcases List.mem_cons.1 hz with rfl | hz
  · exact hxy
  · exact hq z hz
theorem Srt.put {p q : List En} {x : En} (h : Srt (p ++ q)) (hq : ∀ z ∈ q, eltP x z) (hp : ∀ p' y, p = p' ++ [y] → ¬ eltP x y) : Srt (p ++ x :: q) := by
  unfold Srt at *
  rw [List.pairwise_append] at h ⊢
  obtain ⟨h1, h2, h3⟩ := h
  have hpx : ∀ a ∈ p, ¬ eltP x a := by
    intro a ha
    rcases List.eq_nil_or_concat p with rfl | ⟨p', y, rfl⟩
    · simp at ha
    · have hy := hp p' y (by simp)
      rw [List.concat_eq_append] at ha h1
      rcases List.mem_append.1 ha with ha | ha
      · have hay := (List.pairwise_append.1 h1).2.2 a ha y (by simp)
        intro hxa
        rcases elt_total a y with k | k | k
        · exact hy (elt_trans hxa k)
        · subst k; exact hy hxa
        · exact hay k
      · simp at ha; subst ha; exact hy
  refine ⟨h1, List.pairwise_cons.2 ⟨fun z hz => elt_asymm (hq z hz), h2⟩, ?_⟩
  intro a ha z hz
  rcases List.mem_cons.1 hz with rfl | hz
  · exact hpx a ha
  · exact h3 a ha z hz
end Go.Proofs.Ytiighhcilgjebaa
