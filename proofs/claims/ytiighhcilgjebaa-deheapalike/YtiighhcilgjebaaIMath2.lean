/-
  Plain mathematics for layer 6 (iheap), second part: making any list stand right; one entry more, one less.
-/
import Derived.Test.YtiighhcilgjebaaIMath
namespace Go.Proofs.Ytiighhcilgjebaa.I
open Go.RowKit Go.Lib Go.Sort

/-- What sinking leaves. -/
structure Stood (lo lo1 : Nat) (up : Bool) (l : List En) : Prop where
  mk ::
  ok : ∀ j, lo ≤ j → 2 * j < l.length → ble up (sd l up j) (sd l (!up) j)
  mn : ∀ j c, lo ≤ j → Ch j c → 2 * c < l.length → ble up (sd l up j) (sd l up c)
  ot : ∀ j c, lo1 ≤ j → Ch j c → 2 * c < l.length → ble (!up) (sd l (!up) j) (sd l (!up) c)
theorem Snk.stood {lo lo1 k : Nat} {up : Bool} {l : List En} (h : Snk lo lo1 up l k) (hb : IsBest l up k k) (ho : 2 * k < l.length → ble up (sd l up k) (sd l (!up) k)) : Stood lo lo1 up l := by
  obtain ⟨a, b, c⟩ := h.done hb ho
  exact ⟨a, b, c⟩
theorem Stood.right {up : Bool} {l : List En} (h : Stood 0 0 up l) : Right l :=
  right_of (fun j => h.ok j (Nat.zero_le _)) (fun j c => h.mn j c (Nat.zero_le _)) (fun j c => h.ot j c (Nat.zero_le _))
/-- All pairs from m on stand right. -/
abbrev From (m : Nat) (l : List En) : Prop := Stood m m false l
theorem from_start (l : List En) : From (l.length / 2) l := by
  refine ⟨fun j hj hl => ?_, fun j c hj hc hl => ?_, fun j c hj hc hl => ?_⟩
  · rw [sd_single (by omega) false (!false)]
    exact ble_refl _ _
  · unfold Ch at hc; omega
  · unfold Ch at hc; omega
theorem From.snk {k : Nat} {l : List En} (h : From (k + 1) l) : Snk k (k + 1) true l k := by
  refine ⟨Nat.le_refl _, fun j hj hl hne => ?_, fun j c hj hne hc hl => h.ot j c (by omega) hc hl, fun j c hj hc hl => h.mn j c hj hc hl, fun h0 h1 => by omega, fun h0 h1 => by omega, fun h0 h1 => by omega, fun h0 h1 => by omega⟩
  have := h.ok j (by omega) hl
  exact this
theorem Stood.snk {k : Nat} {l : List En} (h : Stood k (k + 1) true l) : Snk k k false l k := by
  refine ⟨Nat.le_refl _, fun j hj hl hne => ?_, fun j c hj hne hc hl => h.ot j c (by omega) hc hl, fun j c hj hc hl => h.mn j c hj hc hl, fun h0 h1 => by omega, fun h0 h1 => by omega, fun h0 h1 => by omega, fun h0 h1 => by omega⟩
  have := h.ok j hj hl
  exact this

/-- What stands but for the last pair k with the one above it. -/
structure Near (l : List En) (k : Nat) : Prop where
  mk ::
  lt : 2 * k < l.length
  top : l.length ≤ 2 * k + 2
  ok : ∀ j, 2 * j < l.length → ble true (sd l true j) (sd l false j)
  lk : ∀ u j c, Ch j c → 2 * c < l.length → c ≠ k → ble u (sd l u j) (sd l u c)
  one : 0 < k → blt true (sd l true k) (sd l true ((k - 1) / 2)) → ble false (sd l false ((k - 1) / 2)) (sd l false k)
  two : 0 < k → 2 * k + 1 < l.length → ble true (sd l true ((k - 1) / 2)) (sd l false k) ∧ ble false (sd l false ((k - 1) / 2)) (sd l true k)
theorem Near.low {l : List En} {k : Nat} (h : Near l k) (h0 : 0 < k) (hb : blt true (sd l true k) (sd l true ((k - 1) / 2))) : Rse true l k := by
  refine ⟨h.lt, h.ok, fun j c hc hl => ?_, fun j c hc hl hne => h.lk _ j c hc hl hne, fun _ c hc hl => ?_, fun _ hl => (h.two h0 hl).1⟩
  · by_cases ck : c = k
    · subst ck
      obtain ⟨rfl, _⟩ := hc.par
      exact h.one h0 hb
    · exact h.lk _ j c hc hl ck
  · have := h.top; unfold Ch at hc; omega
theorem Near.high {l : List En} {k : Nat} (h : Near l k) (hb : k = 0 ∨ ¬ blt true (sd l true k) (sd l true ((k - 1) / 2))) : Rse false l k := by
  refine ⟨h.lt, h.ok, fun j c hc hl => ?_, fun j c hc hl hne => h.lk _ j c hc hl hne, fun h0 c hc hl => ?_, fun h0 hl => (h.two h0 hl).2⟩
  · by_cases ck : c = k
    · subst ck
      obtain ⟨rfl, h0⟩ := hc.par
      exact hb.resolve_left (by omega)
    · exact h.lk _ j c hc hl ck
  · have := h.top; unfold Ch at hc; omega
theorem sd_app {l : List En} {x : En} {j : Nat} (h : 2 * j + 1 < l.length) (v : Bool) : sd (l ++ [x]) v j = sd l v j := by
  unfold sd
  cases v
  · rw [pl_f, pl_f, List.length_append, List.length_singleton, nth_append_left (by omega)]; congr 1; omega
  · rw [pl_t, pl_t, nth_append_left (by omega)]
theorem near_app {l : List En} (h : Right l) (x : En) : Near (ord (l ++ [x]) (l.length / 2)) (l.length / 2) := by
  obtain ⟨k, hk⟩ : ∃ k, l.length / 2 = k := ⟨_, rfl⟩
  rw [hk]
  have len : (l ++ [x]).length = l.length + 1 := by simp
  have hkl : 2 * k < (l ++ [x]).length := by omega
  have so := fun up => sd_ord (l ++ [x]) k hkl up
  have olen := ord_length (l ++ [x]) k
  -- below k all is as it was
  have bj : ∀ v j, j < k → sd (ord (l ++ [x]) k) v j = sd l v j := by
    intro v j hj
    have q := sd_app (l := l) (x := x) (j := j) (by omega) v
    rcases so true with ⟨_, e⟩ | ⟨_, e⟩
    · rw [e]; exact q
    · rw [e v j (by omega), if_neg (by omega)]; exact q
  have okk : ble true (sd (ord (l ++ [x]) k) true k) (sd (ord (l ++ [x]) k) false k) := by
    rcases so true with ⟨h1, e⟩ | ⟨h1, e⟩
    · rw [e]; exact h1
    · rw [e _ _ hkl, e _ _ hkl, if_pos rfl, if_pos rfl]; exact ble_of h1
  have hpar : 0 < k → (k - 1) / 2 < k := fun _ => by omega
  have cases_ : (2 * k = l.length ∧ ∀ v, sd (ord (l ++ [x]) k) v k = x) ∨ (2 * k + 1 = l.length ∧ ((sd (ord (l ++ [x]) k) true k = sd l true k) ∨ (sd (ord (l ++ [x]) k) false k = sd l true k))) := by
    by_cases hev : 2 * k = l.length
    · left
      refine ⟨hev, fun v => ?_⟩
      have e : ord (l ++ [x]) k = l ++ [x] := by unfold ord; rw [if_neg (by omega)]
      rw [e]
      have : sd (l ++ [x]) v k = nth (l ++ [x]) l.length := by
        unfold sd
        congr 1
        cases v
        · rw [pl_f]; omega
        · rw [pl_t]; omega
      rw [this, nth_append_last]
    · right
      refine ⟨by omega, ?_⟩
      have e1 : sd (l ++ [x]) true k = sd l true k := by
        unfold sd; rw [pl_t, pl_t, nth_append_left (by omega)]
      rcases so true with ⟨_, e⟩ | ⟨_, e⟩
      · left; rw [e]; exact e1
      · right; rw [e _ _ hkl, if_pos rfl]; exact e1
  refine ⟨by omega, by omega, fun j hj => ?_, fun u j c hc hl hne => ?_, fun h0 hb => ?_, fun h0 hl => ?_⟩
  · by_cases jk : j = k
    · subst jk; exact okk
    · rw [bj _ _ (by omega), bj _ _ (by omega)]
      exact h.ok j (by omega)
  · have := hc.lt
    rw [bj _ _ (by omega), bj _ _ (by omega)]
    exact h.lk u j c hc (by omega)
  · have hp := hpar h0
    rw [bj _ _ hp] at hb ⊢
    have okp := h.ok ((k - 1) / 2) (by omega)
    rw [show false = !true from rfl, ble_flip]
    rcases cases_ with ⟨_, e⟩ | ⟨e0, e⟩
    · rw [e] at hb
      rw [e]
      exact ble_trans (ble_of hb) okp
    · have l1 := h.lk true _ k (ch_par h0) (by omega)
      have l2 := h.lk false _ k (ch_par h0) (by omega)
      rw [show false = !true from rfl, ble_flip, ← sd_single e0 true (!true)] at l2
      rcases e with e | e
      · rw [e] at hb
        exact absurd hb l1
      · show ble true (sd (ord (l ++ [x]) k) false k) _
        rw [e]; exact l2
  · have hp := hpar h0
    rw [bj _ _ hp, bj _ _ hp]
    rcases cases_ with ⟨e0, e⟩ | ⟨e0, e⟩
    · omega
    · have l1 := h.lk true _ k (ch_par h0) (by omega)
      have l2 := h.lk false _ k (ch_par h0) (by omega)
      rw [show false = !true from rfl, ble_flip, ← sd_single e0 true (!true)] at l2
      rw [show ∀ a b, ble false a b = ble true b a from fun _ _ => rfl]
      rcases e with e | e
      · rw [e] at okk ⊢
        exact ⟨ble_trans l1 okk, l2⟩
      · rw [e] at okk ⊢
        exact ⟨l1, ble_trans okk l2⟩

theorem snk_pop {l : List En} (h : Right l) (up : Bool) : Snk 0 0 up (tak l (pl l.length up 0)) 0 := by
  obtain ⟨i, hi⟩ : ∃ i, pl l.length up 0 = i := ⟨_, rfl⟩
  rw [hi]
  have len := tak_length l i
  have nn : (!!up) = up := by simp
  have i1 : i ≤ 1 := by rw [← hi]; cases up <;> simp only [pl_t, pl_f] <;> omega
  by_cases hn : l.length = 0
  · refine ⟨Nat.le_refl _, fun j _ hl => by omega, fun j c _ _ _ hl => by omega, fun j c _ _ hl => by omega, fun h => by omega, fun h => by omega, fun h => by omega, fun h => by omega⟩
  have il : i < l.length := by rw [← hi]; exact pl_lt up (by omega)
  -- the first sides stay, but for the place that was told
  have T : ∀ j, 0 < j → 2 * j < l.length - 1 → sd (tak l i) true j = sd l true j := by
    intro j j0 hj
    unfold sd
    rw [pl_t, pl_t, nth_tak il (by omega), if_neg (by omega)]
  have F : ∀ j, 0 < j → 2 * j < l.length - 1 → (sd (tak l i) false j = sd l false j) ∨ (2 * j + 1 = l.length - 1 ∧ sd (tak l i) false j = sd l true j) := by
    intro j j0 hj
    unfold sd
    rw [pl_f, pl_f, pl_t, len]
    by_cases h1 : 2 * j + 1 = l.length - 1
    · right
      refine ⟨h1, ?_⟩
      rw [nth_tak il (by omega), if_neg (by omega)]
      congr 1; omega
    · left
      rw [nth_tak il (by omega), if_neg (by omega)]
      congr 1; omega
  have O : 2 < l.length → sd (tak l i) (!up) 0 = sd l (!up) 0 := by
    intro h2
    unfold sd
    rw [len]
    cases up
    · rw [pl_f] at hi
      show nth _ (pl _ true 0) = nth _ (pl _ true 0)
      rw [pl_t, pl_t, nth_tak il (by omega), if_neg (by omega)]
    · rw [pl_t] at hi
      show nth _ (pl _ false 0) = nth _ (pl _ false 0)
      rw [pl_f, pl_f, nth_tak il (by omega), if_neg (by omega)]
      congr 1; omega
  -- a link of either side that starts at a pair whose side stays
  have L : ∀ u j c, Ch j c → 2 * c < l.length - 1 → sd (tak l i) u j = sd l u j → ble u (sd (tak l i) u j) (sd (tak l i) u c) := by
    intro u j c hc hl e
    have h1 := h.lk u j c hc (by omega)
    rw [e]
    cases u
    · rcases F c hc.par.2 hl with e2 | ⟨_, e2⟩
      · rw [e2]; exact h1
      · rw [e2]
        have h2 := h.ok c (by omega)
        rw [show ∀ a b, ble false a b = ble true b a from fun _ _ => rfl] at h1 ⊢
        exact ble_trans h2 h1
    · rw [T c hc.par.2 hl]; exact h1
  have S : ∀ u j c, 0 < j → Ch j c → 2 * c < l.length - 1 → sd (tak l i) u j = sd l u j := by
    intro u j c j0 hc hl
    have := hc.lt
    cases u
    · rcases F j j0 (by omega) with e | ⟨e, _⟩
      · exact e
      · omega
    · exact T j j0 (by omega)
  refine ⟨Nat.le_refl _, fun j _ hl hne => ?_, fun j c _ hne hc hl => ?_, fun j c _ hc hl => ?_, fun h => by omega, fun h => by omega, fun h => by omega, fun h => by omega⟩
  · rw [len] at hl
    have h1 := h.ok j (by omega)
    have e1 := T j (by omega) hl
    have key : ble true (sd (tak l i) true j) (sd (tak l i) false j) := by
      rcases F j (by omega) hl with e2 | ⟨_, e2⟩
      · rw [e1, e2]; exact h1
      · rw [e1, e2]; exact ble_refl _ _
    cases up
    · exact key
    · exact key
  · rw [len] at hl
    exact L up j c hc hl (S up j c (by omega) hc hl)
  · rw [len] at hl
    refine L (!up) j c hc hl ?_
    by_cases j0 : j = 0
    · subst j0
      exact O (by have := hc.lt; omega)
    · exact S (!up) j c (by omega) hc hl
end Go.Proofs.Ytiighhcilgjebaa.I
