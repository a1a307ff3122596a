/-
  Plain mathematics for layer 6 (iheap): pairs and their two sides, what 'stands right' means, what laying a pair in order, sinking and rising do to it. Nothing of the program is read here.
-/
import Derived.Test.YtiighhcilgjebaaHeapMath2
namespace Go.Proofs.Ytiighhcilgjebaa.I
open Go.RowKit Go.Lib Go.Sort

/-- The place of the pair k's entry of a side: of the first ones (up), or of the high side. -/
def pl (n : Nat) (up : Bool) (k : Nat) : Nat := if up then 2 * k else min (2 * k + 1) (n - 1)
theorem pl_t (n k : Nat) : pl n true k = 2 * k := rfl
theorem pl_f (n k : Nat) : pl n false k = min (2 * k + 1) (n - 1) := rfl
theorem pl_lt {n k : Nat} (up : Bool) (h : 2 * k < n) : pl n up k < n := by
  cases up
  · rw [pl_f]; omega
  · rw [pl_t]; omega
/-- The entry there. -/
def sd (l : List En) (up : Bool) (k : Nat) : En := nth l (pl l.length up k)

/-- Two sides' entries change places. -/
def exc (l : List En) (up : Bool) (k b : Nat) : List En := swp l (pl l.length up k) (pl l.length up b)
theorem exc_length (l : List En) (up : Bool) (k b : Nat) : (exc l up k b).length = l.length := swp_length _ _ _
theorem sd_exc (l : List En) (up : Bool) {k b : Nat} (hkb : k < b) (hb : 2 * b < l.length) (v : Bool) (j : Nat) (hj : 2 * j < l.length) :
    sd (exc l up k b) v j = if j = k then (if v = up then sd l up b else sd l v k) else if j = b then (if v = up ∨ 2 * b + 1 = l.length then sd l up k else sd l v b) else sd l v j := by
  unfold sd
  rw [exc_length]
  unfold exc
  rw [nth_swp _ _ (pl_lt up (by omega)) (pl_lt up hb)]
  by_cases jk : j = k
  · subst jk
    rw [if_pos rfl]
    have h1 : pl l.length v j ≠ pl l.length up b := by cases v <;> cases up <;> simp only [pl_t, pl_f] <;> omega
    rw [if_neg h1]
    by_cases hv : v = up
    · subst hv; rw [if_pos rfl, if_pos rfl]
    · have h2 : pl l.length v j ≠ pl l.length up j := by
        cases v <;> cases up <;> simp only [pl_t, pl_f] <;> first | omega | exact absurd rfl hv
      rw [if_neg hv, if_neg h2]
  · rw [if_neg jk]
    by_cases jb : j = b
    · subst jb
      have h2 : pl l.length v j ≠ pl l.length up k := by cases v <;> cases up <;> simp only [pl_t, pl_f] <;> omega
      rw [if_pos (rfl : j = j)]
      by_cases hv : v = up
      · subst hv; rw [if_pos rfl, if_pos (Or.inl rfl)]
      · by_cases hs : 2 * j + 1 = l.length
        · have h3 : pl l.length v j = pl l.length up j := by cases v <;> cases up <;> simp only [pl_t, pl_f] <;> omega
          rw [if_pos h3, if_pos (Or.inr hs)]
        · have h3 : pl l.length v j ≠ pl l.length up j := by
            cases v <;> cases up <;> simp only [pl_t, pl_f] <;> first | omega | exact absurd rfl hv
          have h4 : ¬ (v = up ∨ 2 * j + 1 = l.length) := fun h => h.elim hv hs
          rw [if_neg h3, if_neg h2, if_neg h4]
    · have h2 : pl l.length v j ≠ pl l.length up b := by cases v <;> cases up <;> simp only [pl_t, pl_f] <;> omega
      have h3 : pl l.length v j ≠ pl l.length up k := by cases v <;> cases up <;> simp only [pl_t, pl_f] <;> omega
      rw [if_neg h2, if_neg h3, if_neg jb]
theorem exc_comm (l : List En) (up : Bool) {k b : Nat} (hk : 2 * k < l.length) (hb : 2 * b < l.length) : exc l up k b = exc l up b k := by
  unfold exc
  refine nth_ext (by rw [swp_length, swp_length]) (fun j _ => ?_)
  rw [nth_swp _ _ (pl_lt up hk) (pl_lt up hb), nth_swp _ _ (pl_lt up hb) (pl_lt up hk)]
  by_cases h1 : j = pl l.length up b
  · by_cases h2 : j = pl l.length up k
    · rw [if_pos h1, if_pos h2, ← h1, ← h2]
    · rw [if_pos h1, if_neg h2, if_pos h1]
  · by_cases h2 : j = pl l.length up k
    · rw [if_neg h1, if_pos h2, if_pos h2]
    · rw [if_neg h1, if_neg h2, if_neg h2, if_neg h1]
theorem sd_single {l : List En} {k : Nat} (h : 2 * k + 1 = l.length) (u v : Bool) : sd l u k = sd l v k := by
  unfold sd
  congr 1
  cases u <;> cases v <;> simp only [pl_t, pl_f] <;> omega

/-- The pair k laid in its order. -/
def ord (l : List En) (k : Nat) : List En := if 2 * k + 1 < l.length ∧ eltB (nth l (2 * k + 1)) (nth l (2 * k)) = true then swp l (2 * k) (2 * k + 1) else l
theorem ord_length (l : List En) (k : Nat) : (ord l k).length = l.length := by unfold ord; split <;> simp [swp_length]
theorem ord_perm (l : List En) (k : Nat) : (ord l k).Perm l := by
  unfold ord; split
  · exact swp_perm _ (by omega) (by omega)
  · exact List.Perm.refl _
/-- Laid in its order: as it was, or turned. -/
theorem sd_ord (l : List En) (k : Nat) (hk : 2 * k < l.length) (up : Bool) :
    (ble up (sd l up k) (sd l (!up) k) ∧ ord l k = l) ∨
    (blt up (sd l (!up) k) (sd l up k) ∧ ∀ v j, 2 * j < l.length → sd (ord l k) v j = if j = k then sd l (!v) k else sd l v j) := by
  by_cases hc : 2 * k + 1 < l.length ∧ eltB (nth l (2 * k + 1)) (nth l (2 * k)) = true
  · right
    have e : ord l k = swp l (2 * k) (2 * k + 1) := by unfold ord; rw [if_pos hc]
    obtain ⟨h1, h2⟩ := hc
    have s1 : sd l true k = nth l (2 * k) := rfl
    have s2 : sd l false k = nth l (2 * k + 1) := by unfold sd; rw [pl_f]; congr 1; omega
    refine ⟨?_, fun v j hj => ?_⟩
    · cases up
      · show eltP (sd l false k) (sd l true k)
        rw [s1, s2]; exact (eltB_iff _ _).1 h2
      · show eltP (sd l false k) (sd l true k)
        rw [s1, s2]; exact (eltB_iff _ _).1 h2
    · rw [e]
      have e2 : sd (swp l (2 * k) (2 * k + 1)) v j = nth (swp l (2 * k) (2 * k + 1)) (pl l.length v j) := by unfold sd; rw [swp_length]
      rw [e2, nth_swp _ _ hk h1]
      by_cases jk : j = k
      · subst jk
        rw [if_pos (rfl : j = j)]
        cases v
        · rw [if_pos (by rw [pl_f]; omega)]; exact s1.symm
        · rw [if_neg (by rw [pl_t]; omega), if_pos (pl_t _ _)]; exact s2.symm
      · rw [if_neg jk, if_neg (by cases v <;> simp only [pl_t, pl_f] <;> omega), if_neg (by cases v <;> simp only [pl_t, pl_f] <;> omega)]
        rfl
  · left
    refine ⟨?_, by unfold ord; rw [if_neg hc]⟩
    by_cases h1 : 2 * k + 1 < l.length
    · have h2 : eltB (nth l (2 * k + 1)) (nth l (2 * k)) = false := by simpa [h1] using hc
      have s1 : sd l true k = nth l (2 * k) := rfl
      have s2 : sd l false k = nth l (2 * k + 1) := by unfold sd; rw [pl_f]; congr 1; omega
      have h3 : ¬ eltP (sd l false k) (sd l true k) := by rw [s1, s2, ← eltB_iff, h2]; simp
      cases up <;> exact h3
    · rw [sd_single (by omega) up (!up)]
      exact ble_refl _ _

/-- c stands right below j. -/
def Ch (j c : Nat) : Prop := c = 2 * j + 1 ∨ c = 2 * j + 2
theorem Ch.lt {j c : Nat} (h : Ch j c) : j < c := by unfold Ch at h; omega
theorem Ch.par {j c : Nat} (h : Ch j c) : j = (c - 1) / 2 ∧ 0 < c := by unfold Ch at h; omega
theorem ch_par {c : Nat} (h : 0 < c) : Ch ((c - 1) / 2) c := by unfold Ch; omega

/-- A list of entries stands right. -/
structure Right (l : List En) : Prop where
  mk ::
  ok : ∀ j, 2 * j < l.length → ble true (sd l true j) (sd l false j)
  lk : ∀ u j c, Ch j c → 2 * c < l.length → ble u (sd l u j) (sd l u c)
theorem right_nil : Right [] := ⟨fun j hj => by simp at hj, fun u j c _ hl => by simp at hl⟩
theorem Right.least {l : List En} (h : Right l) : ∀ j, 2 * j < l.length → ble true (sd l true 0) (sd l true j) ∧ ble true (sd l false j) (sd l false 0) := by
  intro j
  induction j using Nat.strongRecOn with
  | _ j ih =>
    intro hj
    by_cases h0 : j = 0
    · subst h0; exact ⟨ble_refl _ _, ble_refl _ _⟩
    · obtain ⟨p1, p2⟩ := ih ((j - 1) / 2) (by omega) (by omega)
      have q1 := h.lk true _ _ (ch_par (by omega)) hj
      have q2 := h.lk false _ _ (ch_par (by omega)) hj
      rw [show false = !true from rfl, ble_flip] at q2
      exact ⟨ble_trans p1 q1, ble_trans q2 p2⟩
/-- The entry at a place is one of its pair's two. -/
theorem place_side {l : List En} {i : Nat} (h : i < l.length) : nth l i = sd l true (i / 2) ∨ nth l i = sd l false (i / 2) := by
  by_cases h2 : i % 2 = 0
  · left; unfold sd; rw [pl_t]; congr 1; omega
  · right; unfold sd; rw [pl_f]; congr 1; omega
theorem Right.sides {l : List En} (h : Right l) {i : Nat} (hi : i < l.length) : ble true (sd l true (i / 2)) (nth l i) ∧ ble true (nth l i) (sd l false (i / 2)) := by
  have hok := h.ok (i / 2) (by omega)
  rcases place_side hi with e | e <;> rw [e]
  · exact ⟨ble_refl _ _, hok⟩
  · exact ⟨hok, ble_refl _ _⟩
theorem Right.first {l : List En} (h : Right l) : ∀ i, i < l.length → ble true (nth l 0) (nth l i) := by
  intro i hi
  exact ble_trans (h.least (i / 2) (by omega)).1 (h.sides hi).1
theorem Right.last {l : List En} (h : Right l) : ∀ i, i < l.length → ble true (nth l i) (nth l (pl l.length false 0)) := by
  intro i hi
  exact ble_trans (h.sides hi).2 (h.least (i / 2) (by omega)).2
/-- The place of the last. -/
def lastP (l : List En) : Nat := pl l.length false 0
theorem lastP_lt {l : List En} (h : 0 < l.length) : lastP l < l.length ∧ lastP l ≤ 1 := by
  unfold lastP; rw [pl_f]; omega
theorem Right.min {l m : List En} (h : Right l) (hm : (nth l 0 :: m).Perm l) : srt l = nth l 0 :: srt m :=
  srt_first hm (fun y hy => by obtain ⟨q, hq, rfl⟩ := mem_nth hy; exact h.first q hq)
theorem Right.max {l m : List En} (h : Right l) (hm : (nth l (lastP l) :: m).Perm l) : srt l = srt m ++ [nth l (lastP l)] :=
  srt_last hm (fun y hy => by obtain ⟨q, hq, rfl⟩ := mem_nth hy; exact h.last q hq)
/-- All pairs from lo on stand right, but for the pair k's entry of a side, and the other sides ahead of lo1. -/
structure Snk (lo lo1 : Nat) (up : Bool) (l : List En) (k : Nat) : Prop where
  mk ::
  ge : lo ≤ k
  ok : ∀ j, lo ≤ j → 2 * j < l.length → j ≠ k → ble up (sd l up j) (sd l (!up) j)
  mn : ∀ j c, lo ≤ j → j ≠ k → Ch j c → 2 * c < l.length → ble up (sd l up j) (sd l up c)
  ot : ∀ j c, lo1 ≤ j → Ch j c → 2 * c < l.length → ble (!up) (sd l (!up) j) (sd l (!up) c)
  skc : 0 < k → lo ≤ (k - 1) / 2 → ∀ c, Ch k c → 2 * c < l.length → ble up (sd l up ((k - 1) / 2)) (sd l up c)
  skl : 0 < k → lo ≤ (k - 1) / 2 → ble up (sd l up ((k - 1) / 2)) (sd l up k)
  skh : 0 < k → lo ≤ (k - 1) / 2 → ble up (sd l up ((k - 1) / 2)) (sd l (!up) k)
  skx : 0 < k → lo1 ≤ (k - 1) / 2 → ble (!up) (sd l (!up) ((k - 1) / 2)) (sd l up k)
theorem Snk.order {lo lo1 k : Nat} {up : Bool} {l : List En} (h : Snk lo lo1 up l k) (hk : 2 * k < l.length) : Snk lo lo1 up (ord l k) k ∧ ble up (sd (ord l k) up k) (sd (ord l k) (!up) k) := by
  rcases sd_ord l k hk up with ⟨h1, h2⟩ | ⟨h1, h2⟩
  · rw [h2]; exact ⟨h, h1⟩
  · have len := ord_length l k
    have nn : (!!up) = up := by simp
    have Nk : ∀ v, sd (ord l k) v k = sd l (!v) k := fun v => by rw [h2 v k hk, if_pos rfl]
    have Nj : ∀ v j, j ≠ k → 2 * j < l.length → sd (ord l k) v j = sd l v j := fun v j hj hl => by rw [h2 v j hl, if_neg hj]
    have hpar : 0 < k → (k - 1) / 2 ≠ k ∧ 2 * ((k - 1) / 2) < l.length := fun h0 => by omega
    have h1' : ble (!up) (sd l up k) (sd l (!up) k) := by rw [ble_flip]; exact ble_of h1
    refine ⟨⟨h.ge, fun j hj hl hne => ?_, fun j c hj hne hc hl => ?_, fun j c hj hc hl => ?_, fun h0 hp c hc hl => ?_, fun h0 hp => ?_, fun h0 hp => ?_, fun h0 hp => ?_⟩, ?_⟩
    · rw [len] at hl
      rw [Nj _ _ hne hl, Nj _ _ hne hl]
      exact h.ok j hj hl hne
    · rw [len] at hl
      have := hc.lt
      rw [Nj _ _ hne (by omega)]
      by_cases ck : c = k
      · subst ck
        obtain ⟨rfl, h0⟩ := hc.par
        rw [Nk]
        exact h.skh h0 hj
      · rw [Nj _ _ ck hl]
        exact h.mn j c hj hne hc hl
    · rw [len] at hl
      have := hc.lt
      by_cases jk : j = k
      · subst jk
        rw [Nk, nn, Nj _ _ (by omega) hl]
        exact ble_trans h1' (h.ot j c hj hc hl)
      · rw [Nj _ _ jk (by omega)]
        by_cases ck : c = k
        · subst ck
          obtain ⟨rfl, h0⟩ := hc.par
          rw [Nk, nn]
          exact h.skx h0 hj
        · rw [Nj _ _ ck hl]
          exact h.ot j c hj hc hl
    · rw [len] at hl
      have := hc.lt
      rw [Nj _ _ (hpar h0).1 (hpar h0).2, Nj _ _ (by omega) hl]
      exact h.skc h0 hp c hc hl
    · rw [Nj _ _ (hpar h0).1 (hpar h0).2, Nk]
      exact h.skh h0 hp
    · rw [Nj _ _ (hpar h0).1 (hpar h0).2, Nk, nn]
      exact h.skl h0 hp
    · rw [Nj _ _ (hpar h0).1 (hpar h0).2, Nk]
      exact h.ot _ _ hp (ch_par h0) hk
    · rw [Nk, Nk, nn]
      exact ble_of h1
/-- b is the pair whose entry of a side is to stand in the pair k. -/
structure IsBest (l : List En) (up : Bool) (k b : Nat) : Prop where
  mk ::
  at_ : b = k ∨ (Ch k b ∧ 2 * b < l.length ∧ blt up (sd l up b) (sd l up k))
  all : ∀ c, Ch k c → 2 * c < l.length → ble up (sd l up b) (sd l up c)
theorem Snk.done {lo lo1 k : Nat} {up : Bool} {l : List En} (h : Snk lo lo1 up l k) (hb : IsBest l up k k) (ho : 2 * k < l.length → ble up (sd l up k) (sd l (!up) k)) :
    (∀ j, lo ≤ j → 2 * j < l.length → ble up (sd l up j) (sd l (!up) j)) ∧ (∀ j c, lo ≤ j → Ch j c → 2 * c < l.length → ble up (sd l up j) (sd l up c)) ∧ (∀ j c, lo1 ≤ j → Ch j c → 2 * c < l.length → ble (!up) (sd l (!up) j) (sd l (!up) c)) := by
  refine ⟨fun j hj hl => ?_, fun j c hj hc hl => ?_, h.ot⟩
  · by_cases jk : j = k
    · subst jk; exact ho hl
    · exact h.ok j hj hl jk
  · by_cases jk : j = k
    · subst jk; exact hb.all c hc hl
    · exact h.mn j c hj jk hc hl
theorem Snk.step {lo lo1 k b : Nat} {up : Bool} {l : List En} (h : Snk lo lo1 up l k) (ho : ble up (sd l up k) (sd l (!up) k)) (hb : IsBest l up k b) (hne : b ≠ k) : Snk lo lo1 up (exc l up k b) b ∧ k < b ∧ 2 * b < l.length := by
  obtain ⟨hC, hl, hlt⟩ := hb.at_.resolve_left hne
  have hkb := hC.lt
  have hlo := h.ge
  have len := exc_length l up k b
  have hbp : (b - 1) / 2 = k := hC.par.1.symm
  have N := sd_exc l up hkb hl
  have nu : (!up) ≠ up := by cases up <;> simp
  have Nk1 : sd (exc l up k b) up k = sd l up b := by rw [N _ _ (by omega), if_pos rfl, if_pos rfl]
  have Nk2 : sd (exc l up k b) (!up) k = sd l (!up) k := by rw [N _ _ (by omega), if_pos rfl, if_neg nu]
  have Nb1 : sd (exc l up k b) up b = sd l up k := by rw [N _ _ hl, if_neg hne, if_pos rfl, if_pos (.inl rfl)]
  have Nb2 : (2 * b + 1 = l.length ∧ sd (exc l up k b) (!up) b = sd l up k) ∨ (2 * b + 1 < l.length ∧ sd (exc l up k b) (!up) b = sd l (!up) b) := by
    rw [N _ _ hl, if_neg hne, if_pos rfl]
    by_cases hs : 2 * b + 1 = l.length
    · left; rw [if_pos (.inr hs)]; exact ⟨hs, rfl⟩
    · right; rw [if_neg (by simp [nu, hs])]; exact ⟨by omega, rfl⟩
  have Nj : ∀ v j, j ≠ k → j ≠ b → 2 * j < l.length → sd (exc l up k b) v j = sd l v j := fun v j h1 h2 h3 => by rw [N _ _ h3, if_neg h1, if_neg h2]
  refine ⟨⟨by omega, fun j hj hl' hne' => ?_, fun j c hj hne' hc hl' => ?_, fun j c hj hc hl' => ?_, fun h0 hp c hc hl' => ?_, fun h0 hp => ?_, fun h0 hp => ?_, fun h0 hp => ?_⟩, hkb, hl⟩
  · rw [len] at hl'
    by_cases jk : j = k
    · subst jk
      rw [Nk1, Nk2]
      exact ble_trans (ble_of hlt) ho
    · rw [Nj _ _ jk hne' hl', Nj _ _ jk hne' hl']
      exact h.ok j hj hl' jk
  · rw [len] at hl'
    have := hc.lt
    by_cases jk : j = k
    · subst jk
      rw [Nk1]
      by_cases cb : c = b
      · subst cb; rw [Nb1]; exact ble_of hlt
      · rw [Nj _ _ (by omega) cb hl']
        exact hb.all c hc hl'
    · rw [Nj _ _ jk hne' (by omega)]
      have cb : c ≠ b := by
        rintro rfl
        have := hc.par.1
        omega
      by_cases ck : c = k
      · subst ck
        obtain ⟨rfl, h0⟩ := hc.par
        rw [Nk1]
        exact h.skc h0 hj b hC hl
      · rw [Nj _ _ ck cb hl']
        exact h.mn j c hj jk hc hl'
  · rw [len] at hl'
    have := hc.lt
    by_cases jk : j = k
    · subst jk
      rw [Nk2]
      by_cases cb : c = b
      · subst cb
        rcases Nb2 with ⟨_, e⟩ | ⟨_, e⟩
        · rw [e, ble_flip]; exact ho
        · rw [e]; exact h.ot j c hj hc hl'
      · rw [Nj _ _ (by omega) cb hl']
        exact h.ot j c hj hc hl'
    · by_cases jb : j = b
      · subst jb
        have hb2 : sd (exc l up k j) (!up) j = sd l (!up) j := by
          rcases Nb2 with ⟨e, _⟩ | ⟨_, e⟩
          · omega
          · exact e
        rw [hb2, Nj _ _ (by omega) (by omega) hl']
        exact h.ot j c hj hc hl'
      · have cb : c ≠ b := by
          rintro rfl
          have := hc.par.1
          omega
        rw [Nj _ _ jk jb (by omega)]
        by_cases ck : c = k
        · subst ck; rw [Nk2]; exact h.ot j c hj hc hl'
        · rw [Nj _ _ ck cb hl']; exact h.ot j c hj hc hl'
  · rw [len] at hl'
    have := hc.lt
    rw [hbp, Nk1, Nj _ _ (by omega) (by omega) hl']
    exact h.mn b c (by omega) hne hc hl'
  · rw [hbp, Nk1, Nb1]; exact ble_of hlt
  · rw [hbp, Nk1]
    rcases Nb2 with ⟨_, e⟩ | ⟨_, e⟩
    · rw [e]; exact ble_of hlt
    · rw [e]; exact h.ok b (by omega) hl hne
  · rw [hbp, Nk2, Nb1, ble_flip]
    exact ho

/-- All stands right, but for the pair k's entry of a side with the one above it. -/
structure Rse (up : Bool) (l : List En) (k : Nat) : Prop where
  mk ::
  lt : 2 * k < l.length
  ok : ∀ j, 2 * j < l.length → ble up (sd l up j) (sd l (!up) j)
  ot : ∀ j c, Ch j c → 2 * c < l.length → ble (!up) (sd l (!up) j) (sd l (!up) c)
  mn : ∀ j c, Ch j c → 2 * c < l.length → c ≠ k → ble up (sd l up j) (sd l up c)
  skc : 0 < k → ∀ c, Ch k c → 2 * c < l.length → ble up (sd l up ((k - 1) / 2)) (sd l up c)
  skh : 0 < k → 2 * k + 1 < l.length → ble up (sd l up ((k - 1) / 2)) (sd l (!up) k)
theorem right_of {up : Bool} {l : List En} (ok : ∀ j, 2 * j < l.length → ble up (sd l up j) (sd l (!up) j)) (mn : ∀ j c, Ch j c → 2 * c < l.length → ble up (sd l up j) (sd l up c)) (ot : ∀ j c, Ch j c → 2 * c < l.length → ble (!up) (sd l (!up) j) (sd l (!up) c)) : Right l := by
  refine ⟨fun j hj => ?_, fun u j c hc hl => ?_⟩
  · have := ok j hj
    cases up
    · exact this
    · exact this
  · cases up <;> cases u <;> first | exact mn j c hc hl | exact ot j c hc hl
theorem Rse.done {up : Bool} {l : List En} {k : Nat} (h : Rse up l k) (hd : k = 0 ∨ ¬ blt up (sd l up k) (sd l up ((k - 1) / 2))) : Right l := by
  refine right_of h.ok (fun j c hc hl => ?_) h.ot
  by_cases ck : c = k
  · subst ck
    obtain ⟨rfl, h0⟩ := hc.par
    exact hd.resolve_left (by omega)
  · exact h.mn j c hc hl ck
theorem Right.rse {l : List En} (h : Right l) (up : Bool) {k : Nat} (hk : 2 * k < l.length) : Rse up l k := by
  have ok : ∀ j, 2 * j < l.length → ble up (sd l up j) (sd l (!up) j) := fun j hj => by
    have := h.ok j hj
    cases up
    · exact this
    · exact this
  refine ⟨hk, ok, fun j c hc hl => h.lk _ j c hc hl, fun j c hc hl _ => h.lk _ j c hc hl, fun h0 c hc hl => ?_, fun h0 hl => ?_⟩
  · exact ble_trans (h.lk up _ k (ch_par h0) hk) (h.lk up k c hc hl)
  · exact ble_trans (h.lk up _ k (ch_par h0) hk) (ok k hk)
theorem Rse.step {up : Bool} {l : List En} {k : Nat} (h : Rse up l k) (h0 : 0 < k) (hb : blt up (sd l up k) (sd l up ((k - 1) / 2))) : Rse up (exc l up ((k - 1) / 2) k) ((k - 1) / 2) := by
  obtain ⟨p, hp⟩ : ∃ p, p = (k - 1) / 2 := ⟨_, rfl⟩
  have hC : Ch p k := by rw [hp]; exact ch_par h0
  have hS := h.skc h0
  have hH := h.skh h0
  rw [← hp] at hb hS hH ⊢
  have hkb := hC.lt
  have hl := h.lt
  have hne : k ≠ p := by omega
  have len := exc_length l up p k
  have N := sd_exc l up hkb hl
  have nu : (!up) ≠ up := by cases up <;> simp
  have Nk1 : sd (exc l up p k) up p = sd l up k := by rw [N _ _ (by omega), if_pos rfl, if_pos rfl]
  have Nk2 : sd (exc l up p k) (!up) p = sd l (!up) p := by rw [N _ _ (by omega), if_pos rfl, if_neg nu]
  have Nb1 : sd (exc l up p k) up k = sd l up p := by rw [N _ _ hl, if_neg hne, if_pos rfl, if_pos (.inl rfl)]
  have Nb2 : (2 * k + 1 = l.length ∧ sd (exc l up p k) (!up) k = sd l up p) ∨ (2 * k + 1 < l.length ∧ sd (exc l up p k) (!up) k = sd l (!up) k) := by
    rw [N _ _ hl, if_neg hne, if_pos rfl]
    by_cases hs : 2 * k + 1 = l.length
    · left; rw [if_pos (.inr hs)]; exact ⟨hs, rfl⟩
    · right; rw [if_neg (by simp [nu, hs])]; exact ⟨by omega, rfl⟩
  have Nj : ∀ v j, j ≠ p → j ≠ k → 2 * j < l.length → sd (exc l up p k) v j = sd l v j := fun v j h1 h2 h3 => by rw [N _ _ h3, if_neg h1, if_neg h2]
  refine ⟨by rw [len]; omega, fun j hl' => ?_, fun j c hc hl' => ?_, fun j c hc hl' hcp => ?_, fun p0 c hc hl' => ?_, fun p0 hl' => ?_⟩
  · rw [len] at hl'
    by_cases jp : j = p
    · subst jp
      rw [Nk1, Nk2]
      exact ble_trans (ble_of hb) (h.ok j hl')
    · by_cases jk : j = k
      · subst jk
        rw [Nb1]
        rcases Nb2 with ⟨_, e⟩ | ⟨h1, e⟩
        · rw [e]; exact ble_refl _ _
        · rw [e]; exact hH h1
      · rw [Nj _ _ jp jk hl', Nj _ _ jp jk hl']
        exact h.ok j hl'
  · rw [len] at hl'
    have := hc.lt
    by_cases jk : j = k
    · subst jk
      have e : sd (exc l up p j) (!up) j = sd l (!up) j := by
        rcases Nb2 with ⟨e, _⟩ | ⟨_, e⟩
        · omega
        · exact e
      rw [e, Nj _ _ (by omega) (by omega) hl']
      exact h.ot j c hc hl'
    · have ej : sd (exc l up p k) (!up) j = sd l (!up) j := by
        by_cases jp : j = p
        · subst jp; exact Nk2
        · exact Nj _ _ jp jk (by omega)
      rw [ej]
      by_cases ck : c = k
      · subst ck
        have jp : j = p := by rw [hp]; exact hc.par.1
        subst jp
        rcases Nb2 with ⟨_, e⟩ | ⟨h1, e⟩
        · rw [e, ble_flip]; exact h.ok j (by omega)
        · rw [e]; exact h.ot j c hc hl'
      · by_cases cp : c = p
        · subst cp; rw [Nk2]; exact h.ot j c hc hl'
        · rw [Nj _ _ cp ck hl']; exact h.ot j c hc hl'
  · rw [len] at hl'
    have := hc.lt
    by_cases jp : j = p
    · subst jp
      rw [Nk1]
      by_cases ck : c = k
      · subst ck; rw [Nb1]; exact ble_of hb
      · rw [Nj _ _ (by omega) ck hl']
        exact ble_trans (ble_of hb) (h.mn j c hc hl' ck)
    · by_cases jk : j = k
      · subst jk
        rw [Nb1, Nj _ _ hcp (by omega) hl']
        exact hS c hc hl'
      · have ck : c ≠ k := by
          rintro rfl
          exact jp (by rw [hp]; exact hc.par.1)
        rw [Nj _ _ jp jk (by omega), Nj _ _ hcp ck hl']
        exact h.mn j c hc hl' ck
  · rw [len] at hl'
    have := hc.lt
    have hg : (p - 1) / 2 < p := by omega
    rw [Nj _ _ (by omega) (by omega) (by omega)]
    have q := h.mn _ p (ch_par p0) (by omega) (by omega)
    by_cases ck : c = k
    · subst ck; rw [Nb1]; exact q
    · rw [Nj _ _ (by omega) ck hl']
      exact ble_trans q (h.mn p c hc hl' ck)
  · rw [Nj _ _ (by omega) (by omega) (by omega), Nk2]
    exact ble_trans (h.mn _ p (ch_par p0) (by omega) (by omega)) (h.ok p (by omega))
end Go.Proofs.Ytiighhcilgjebaa.I
