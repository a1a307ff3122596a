/-
  Plain mathematics for layer 5 (mmheap), second part: what becomes of a list in which one entry sinks, rises, or is taken out.
-/
import Derived.Test.YtiighhcilgjebaaHeapMath
namespace Go.Proofs.Ytiighhcilgjebaa
open Go.RowKit Go.Lib Go.Sort

/-- b is the place of the entry that is to stand at i. -/
structure IsBest (l : List En) (up : Bool) (i b : Nat) : Prop where
  mk ::
  at_ : b = i ∨ (Bel i b ∧ b < l.length ∧ blt up (nth l b) (nth l i))
  le : ble up (nth l b) (nth l i)
  all : ∀ k, Bel i k → k < l.length → ble up (nth l b) (nth l k)
/-- b is the place best, or a better one from frm on, ahead of hi. -/
structure IsBestOf (l : List En) (up : Bool) (best frm hi b : Nat) : Prop where
  mk ::
  at_ : b = best ∨ (frm ≤ b ∧ b < hi ∧ blt up (nth l b) (nth l best))
  le : ble up (nth l b) (nth l best)
  all : ∀ k, frm ≤ k → k < hi → ble up (nth l b) (nth l k)
theorem IsBestOf.start (l : List En) (up : Bool) (best frm : Nat) : IsBestOf l up best frm frm best :=
  ⟨.inl rfl, ble_refl _ _, fun k h1 h2 => absurd h2 (by omega)⟩
theorem IsBestOf.yes {l : List En} {up : Bool} {best frm hi b : Nat} (h : IsBestOf l up best frm hi b) (hf : frm ≤ hi) (hb : blt up (nth l hi) (nth l b)) : IsBestOf l up best frm (hi + 1) hi := by
  refine ⟨.inr ⟨hf, by omega, ?_⟩, ?_, fun k h1 h2 => ?_⟩
  · rcases ble_cases h.le with k | k
    · exact blt_trans hb k
    · rw [← k]; exact hb
  · exact ble_trans (ble_of hb) h.le
  · by_cases hk : k = hi
    · subst hk; exact ble_refl _ _
    · exact ble_trans (ble_of hb) (h.all k h1 (by omega))
theorem IsBestOf.no {l : List En} {up : Bool} {best frm hi b : Nat} (h : IsBestOf l up best frm hi b) (hb : ¬ blt up (nth l hi) (nth l b)) : IsBestOf l up best frm (hi + 1) b := by
  refine ⟨?_, h.le, fun k h1 h2 => ?_⟩
  · rcases h.at_ with k | ⟨k1, k2, k3⟩
    · exact .inl k
    · exact .inr ⟨k1, by omega, k3⟩
  · by_cases hk : k = hi
    · subst hk; exact hb
    · exact h.all k h1 (by omega)
theorem isBest_of {l : List En} {up : Bool} {i b1 b h1 h2 : Nat} (e1 : h1 = max (2 * i + 1) (min (2 * i + 1 + 2) l.length)) (e2 : h2 = max (4 * i + 3) (min (4 * i + 3 + 4) l.length)) (k1 : IsBestOf l up i (2 * i + 1) h1 b1) (k2 : IsBestOf l up b1 (4 * i + 3) h2 b) : IsBest l up i b := by
  refine ⟨?_, ble_trans k2.le k1.le, fun k hk hl => ?_⟩
  · rcases k2.at_ with rfl | ⟨q1, q2, q3⟩
    · rcases k1.at_ with rfl | ⟨q1, q2, q3⟩
      · exact .inl rfl
      · exact .inr ⟨by unfold Bel; omega, by omega, q3⟩
    · refine .inr ⟨by unfold Bel; omega, by omega, ?_⟩
      rcases ble_cases k1.le with q | q
      · exact blt_trans q3 q
      · rw [← q]; exact q3
  · unfold Bel at hk
    by_cases hc : k < 2 * i + 3
    · exact ble_trans k2.le (k1.all k (by omega) (by omega))
    · exact k2.all k (by omega) (by omega)

theorem Bel.par {j k : Nat} (h : Bel j k) : 0 < k ∧ (j = (k - 1) / 2 ∨ (2 < k ∧ j = ((k - 1) / 2 - 1) / 2)) := by unfold Bel at h; omega
theorem bel_par {k : Nat} (h : 0 < k) : Bel ((k - 1) / 2) k := by unfold Bel; omega
theorem bel_gp {k : Nat} (h : 2 < k) : Bel (((k - 1) / 2 - 1) / 2) k := by unfold Bel; omega
theorem Bel.lt {j k : Nat} (h : Bel j k) : j < k := by unfold Bel at h; omega

/-- All from lo on stands right, but for the entry at i with what is below it. -/
structure Snk (lo : Nat) (l : List En) (i : Nat) : Prop where
  mk ::
  ge : lo ≤ i
  lt : i < l.length
  loc : ∀ j, lo ≤ j → j ≠ i → Loc l j
  sk : 2 < i → lo ≤ ((i - 1) / 2 - 1) / 2 → ∀ k, Bel i k → k < l.length → ble (evn i) (nth l (((i - 1) / 2 - 1) / 2)) (nth l k)
theorem Snk.done {lo i : Nat} {l : List En} (h : Snk lo l i) (hb : IsBest l (evn i) i i) : ∀ j, lo ≤ j → Loc l j := by
  intro j hj
  by_cases hji : j = i
  · subst hji; exact hb.all
  · exact h.loc j hj hji
theorem Snk.child {lo i b : Nat} {l : List En} (h : Snk lo l i) (hb : IsBest l (evn i) i b) (hne : b ≠ i) (hp : (b - 1) / 2 = i) : ∀ j, lo ≤ j → Loc (swp l i b) j := by
  obtain ⟨hB, hbl, hlt⟩ := hb.at_.resolve_left hne
  have hib := hB.lt
  have hil := h.lt
  have hlo := h.ge
  have ev : evn b = !evn i := by rw [evn_up (by omega), hp]
  have N := fun j => nth_swp l (i := i) (k := b) j hil hbl
  intro j hj k hk hkl
  rw [swp_length] at hkl
  have hjk := hk.lt
  rw [N j, N k]
  by_cases jb : j = b
  · subst jb
    rw [if_pos rfl, if_neg (by omega), if_neg (by omega), ev, ble_flip]
    have q := h.loc j hj hne k hk hkl
    rw [ev, ble_flip] at q
    exact ble_trans q hb.le
  · rw [if_neg jb]
    by_cases ji : j = i
    · subst ji
      rw [if_pos rfl]
      by_cases kb : k = b
      · rw [if_pos kb]; exact hb.le
      · rw [if_neg kb, if_neg (by omega)]; exact hb.all k hk hkl
    · rw [if_neg ji]
      by_cases ki : k = i
      · subst ki
        rw [if_neg (by omega), if_pos rfl]
        obtain ⟨k0, hpj | ⟨k2, hpj⟩⟩ := hk.par
        · have q := h.loc j hj ji k hk hkl
          have ev2 : evn j = !evn k := by rw [hpj, evn_par k0]
          rw [ev2, ble_flip] at q ⊢
          exact ble_trans hb.le q
        · have ev2 : evn j = evn k := by rw [hpj, evn_gp k2]
          rw [ev2, hpj]
          exact h.sk k2 (by omega) b hB hbl
      · by_cases kb : k = b
        · subst kb
          rw [if_pos rfl]
          obtain ⟨k0, hpj | ⟨k2, hpj⟩⟩ := hk.par
          · omega
          · rw [hp] at hpj
            have i0 : 0 < i := by omega
            have := h.loc j hj ji i (by rw [hpj]; exact bel_par i0) hil
            exact this
        · rw [if_neg kb, if_neg ki]
          exact h.loc j hj ji k hk hkl
/-- The list behind a step of two levels. -/
def two (l : List En) (up : Bool) (i b : Nat) : List En :=
  if bltB up (nth (swp l i b) ((b - 1) / 2)) (nth (swp l i b) b) = true then swp (swp l i b) ((b - 1) / 2) b else swp l i b
theorem two_length (l : List En) (up : Bool) (i b : Nat) : (two l up i b).length = l.length := by
  unfold two; split <;> simp [swp_length]
theorem Snk.two {lo i b : Nat} {l : List En} (h : Snk lo l i) (hb : IsBest l (evn i) i b) (hne : b ≠ i) (hp : (b - 1) / 2 ≠ i) : Snk lo (two l (evn i) i b) b ∧ i < b := by
  obtain ⟨hB, hbl, hlt⟩ := hb.at_.resolve_left hne
  have hib := hB.lt
  have hil := h.lt
  have hlo := h.ge
  obtain ⟨b0, hpp | ⟨b2, hgp⟩⟩ := hB.par
  · exact absurd hpp.symm hp
  obtain ⟨p, ep⟩ : ∃ p, p = (b - 1) / 2 := ⟨_, rfl⟩
  rw [← ep] at hgp
  have hpi : i < p := by omega
  have hpb : p < b := by omega
  have hpl : p < l.length := by omega
  have evb : evn b = evn i := by rw [hgp, ep, evn_gp b2]
  have evp : evn p = !evn i := by rw [ep, evn_par b0, evb]
  have Bip : Bel i p := by rw [hgp]; exact bel_par (by omega)
  have mp := hb.all p Bip hpl
  have N1 := fun j => nth_swp l (i := i) (k := b) j hil hbl
  -- what lies where
  have key : ∃ y z : En, (∀ j, nth (Go.Proofs.Ytiighhcilgjebaa.two l (evn i) i b) j = if j = i then nth l b else if j = b then y else if j = p then z else nth l j)
      ∧ ble (evn i) y z ∧ ble (evn i) (nth l p) z ∧ ble (evn i) (nth l b) y ∧ (z = nth l i ∨ z = nth l p) := by
    unfold Go.Proofs.Ytiighhcilgjebaa.two
    rw [← ep]
    have e1 : nth (swp l i b) p = nth l p := by rw [N1, if_neg (by omega), if_neg (by omega)]
    have e2 : nth (swp l i b) b = nth l i := by rw [N1, if_pos rfl]
    rw [e1, e2]
    cases hc : bltB (evn i) (nth l p) (nth l i) with
    | true =>
      have hc' := (bltB_iff _ _ _).1 hc
      rw [if_pos rfl]
      refine ⟨nth l p, nth l i, fun j => ?_, ble_of hc', ble_of hc', mp, .inl rfl⟩
      rw [nth_swp _ _ (by rw [swp_length]; exact hpl) (by rw [swp_length]; exact hbl), e1, e2, N1]
      by_cases j1 : j = i
      · rw [if_neg (by omega), if_neg (by omega), if_neg (by omega), if_pos j1, if_pos j1]
      · by_cases j2 : j = b
        · simp only [if_pos j2, if_neg j1]
        · simp only [if_neg j2, if_neg j1]
    | false =>
      have hc' := (bltB_false _ _ _).1 hc
      rw [if_neg (by simp)]
      refine ⟨nth l i, nth l p, fun j => ?_, hc', ble_refl _ _, hb.le, .inr rfl⟩
      rw [N1]
      by_cases j1 : j = i
      · rw [if_neg (by omega), if_pos j1, if_pos j1]
      · by_cases j2 : j = b
        · simp only [if_pos j2, if_neg j1]
        · simp only [if_neg j2, if_neg j1]
          by_cases j3 : j = p
          · rw [if_pos j3, j3]
          · rw [if_neg j3]
  obtain ⟨y, z, N, yz, pz, my, hz⟩ := key
  have mz : ble (evn i) (nth l b) z := ble_trans mp pz
  have hlen := two_length l (evn i) i b
  generalize Go.Proofs.Ytiighhcilgjebaa.two l (evn i) i b = L at *
  refine ⟨⟨by omega, by omega, fun j hj hjb k hk hkl => ?_, fun _ _ k hk hkl => ?_⟩, hib⟩
  · rw [hlen] at hkl
    have hjk := hk.lt
    rw [N j, N k]
    by_cases ji : j = i
    · subst ji
      rw [if_pos rfl, if_neg (by omega)]
      by_cases kb : k = b
      · rw [if_pos kb]; exact my
      · rw [if_neg kb]
        by_cases kp : k = p
        · rw [if_pos kp]; exact mz
        · rw [if_neg kp]; exact hb.all k hk hkl
    · rw [if_neg ji, if_neg hjb]
      by_cases jp : j = p
      · subst jp
        rw [if_pos rfl, if_neg (by omega), evp, ble_flip]
        by_cases kb : k = b
        · rw [if_pos kb]; exact yz
        · rw [if_neg kb, if_neg (by omega)]
          have q := h.loc j hj ji k hk hkl
          rw [evp, ble_flip] at q
          exact ble_trans q pz
      · rw [if_neg jp]
        by_cases ki : k = i
        · subst ki
          rw [if_pos rfl]
          obtain ⟨k0, hpj | ⟨k2, hpj⟩⟩ := hk.par
          · have q := h.loc j hj ji k hk hkl
            have ev2 : evn j = !evn k := by rw [hpj, evn_par k0]
            rw [ev2, ble_flip] at q ⊢
            exact ble_trans hb.le q
          · have ev2 : evn j = evn k := by rw [hpj, evn_gp k2]
            rw [ev2, hpj]
            exact h.sk k2 (by omega) b hB hbl
        · rw [if_neg ki]
          by_cases kb : k = b
          · subst kb
            exfalso
            obtain ⟨_, hpj | ⟨_, hpj⟩⟩ := hk.par <;> omega
          · rw [if_neg kb]
            by_cases kp : k = p
            · subst kp
              rw [if_pos rfl]
              obtain ⟨_, hpj | ⟨k2, hpj⟩⟩ := hk.par
              · omega
              · have i0 : 0 < i := by omega
                have hpj' : j = (i - 1) / 2 := by omega
                have q1 := h.loc j hj ji i (by rw [hpj']; exact bel_par i0) hil
                have q2 := h.loc j hj ji k hk hkl
                rcases hz with rfl | rfl
                · exact q1
                · exact q2
            · rw [if_neg kp]
              exact h.loc j hj ji k hk hkl
  · rw [hlen] at hkl
    have hbk := hk.lt
    rw [← ep, ← hgp, N i, N k, if_pos rfl, if_neg (by omega), if_neg (by omega), if_neg (by omega)]
    have := h.loc b (by omega) hne k hk hkl
    exact this
theorem swp_below {l : List En} {i k j lo : Nat} (hi : i < l.length) (hk : k < l.length) (h1 : lo ≤ i) (h2 : lo ≤ k) (hj : j < lo) : nth (swp l i k) j = nth l j := by
  rw [nth_swp _ _ hi hk, if_neg (by omega), if_neg (by omega)]
/-- What sinking leaves as it was: the entries, and what stands ahead of lo. -/
structure Same (lo : Nat) (l l' : List En) : Prop where
  mk ::
  perm : l'.Perm l
  ahead : ∀ j, j < lo → nth l' j = nth l j
theorem Same.refl (lo : Nat) (l : List En) : Same lo l l := ⟨List.Perm.refl _, fun _ _ => rfl⟩
theorem Same.len {lo : Nat} {l l' : List En} (h : Same lo l l') : l'.length = l.length := h.perm.length_eq
theorem Same.swp {lo : Nat} {l l' : List En} {i k : Nat} (h : Same lo l l') (hi : i < l'.length) (hk : k < l'.length) (h1 : lo ≤ i) (h2 : lo ≤ k) : Same lo l (swp l' i k) :=
  ⟨(swp_perm _ hi hk).trans h.perm, fun j hj => (swp_below hi hk h1 h2 hj).trans (h.ahead j hj)⟩

/-- All stands right, but for the entry at i with the one two levels above it. -/
structure Rse (l : List En) (i : Nat) : Prop where
  mk ::
  lt : i < l.length
  loc : ∀ j k, Bel j k → k < l.length → ¬ (k = i ∧ j = ((i - 1) / 2 - 1) / 2 ∧ 2 < i) → ble (evn j) (nth l j) (nth l k)
  sk : 2 < i → ∀ k, Bel i k → k < l.length → ble (evn i) (nth l (((i - 1) / 2 - 1) / 2)) (nth l k)
theorem Rse.done {l : List En} {i : Nat} (h : Rse l i) (hd : i ≤ 2 ∨ ¬ blt (evn i) (nth l i) (nth l (((i - 1) / 2 - 1) / 2))) : Right l := by
  intro j k hk hkl
  by_cases hc : k = i ∧ j = ((i - 1) / 2 - 1) / 2 ∧ 2 < i
  · obtain ⟨rfl, rfl, h2⟩ := hc
    rw [evn_gp h2]
    exact hd.resolve_left (by omega)
  · exact h.loc j k hk hkl hc
theorem Rse.step {l : List En} {i : Nat} (h : Rse l i) (h2 : 2 < i) (hb : blt (evn i) (nth l i) (nth l (((i - 1) / 2 - 1) / 2))) : Rse (swp l i (((i - 1) / 2 - 1) / 2)) (((i - 1) / 2 - 1) / 2) := by
  obtain ⟨G, hG⟩ : ∃ G, G = ((i - 1) / 2 - 1) / 2 := ⟨_, rfl⟩
  have evG : evn G = evn i := by rw [hG, evn_gp h2]
  have hL := h.loc
  have hS := h.sk h2
  have hil := h.lt
  rw [← hG] at hb hL hS ⊢
  have hGi : G < i := by omega
  have hGl : G < l.length := by omega
  have N := fun j => nth_swp l (i := i) (k := G) j hil hGl
  refine ⟨by rw [swp_length]; exact hGl, fun j k hk hkl hc => ?_, fun g2 k hk hkl => ?_⟩
  · rw [swp_length] at hkl
    have hjk := hk.lt
    rw [N j, N k]
    by_cases jG : j = G
    · subst jG
      rw [if_pos rfl, if_neg (by omega), evG]
      by_cases ki : k = i
      · rw [if_pos ki]; exact ble_of hb
      · rw [if_neg ki]
        have q := hL j k hk hkl (by omega)
        rw [evG] at q
        exact ble_trans (ble_of hb) q
    · rw [if_neg jG]
      by_cases ji : j = i
      · subst ji
        rw [if_pos rfl, if_neg (by omega), if_neg (by omega)]
        exact hS k hk hkl
      · rw [if_neg ji]
        by_cases kG : k = G
        · subst kG
          rw [if_pos rfl]
          obtain ⟨k0, hpj | ⟨k2, hpj⟩⟩ := hk.par
          · have ev2 : evn j = !evn i := by rw [hpj, evn_par k0, evG]
            have q := hL j k hk hkl (by omega)
            rw [ev2, ble_flip] at q ⊢
            exact ble_trans (ble_of hb) q
          · exact absurd ⟨rfl, hpj, k2⟩ hc
        · rw [if_neg kG]
          by_cases ki : k = i
          · subst ki
            rw [if_pos rfl]
            obtain ⟨k0, hpj | ⟨k2, hpj⟩⟩ := hk.par
            · have q := hL G j (by rw [hG, hpj]; exact bel_par (by omega)) (by omega) (by omega)
              rw [evG] at q
              rw [show evn j = !evn k by rw [hpj, evn_par k0], ble_flip]
              exact q
            · omega
          · rw [if_neg ki]
            exact hL j k hk hkl (by omega)
  · rw [swp_length] at hkl
    have hgk := hk.lt
    rw [N, N k, if_neg (by omega), if_neg (by omega), if_neg (by omega)]
    have q1 := hL _ G (bel_gp g2) hGl (by omega)
    rw [evn_gp g2] at q1
    by_cases ki : k = i
    · rw [if_pos ki]; exact q1
    · rw [if_neg ki]
      exact ble_trans q1 (hL G k hk hkl (by omega))
theorem nth_append_left {l m : List En} {j : Nat} (h : j < l.length) : nth (l ++ m) j = nth l j := by
  unfold nth; simp only [List.getD_eq_getElem?_getD, List.getElem?_append_left h]
theorem nth_append_last (l : List En) (x : En) : nth (l ++ [x]) l.length = x := by
  unfold nth; simp
theorem Rse.stay {l : List En} (h : Right l) (x : En) (hn : l.length = 0 ∨ ¬ blt (!evn l.length) (nth (l ++ [x]) l.length) (nth (l ++ [x]) ((l.length - 1) / 2))) : Rse (l ++ [x]) l.length := by
  refine ⟨by simp, fun j k hk hkl hc => ?_, fun _ k hk hkl => ?_⟩
  · have hjk := hk.lt
    by_cases kn : k = l.length
    · obtain ⟨k0, hpj | ⟨k2, hpj⟩⟩ := hk.par
      · have q := hn.resolve_left (by omega)
        rw [hpj, kn, evn_par (by omega)]
        exact q
      · exact absurd ⟨kn, by rw [hpj, kn], by omega⟩ hc
    · have hkl' : k < l.length := by simp at hkl; omega
      rw [nth_append_left (by omega), nth_append_left hkl']
      exact h j k hk hkl'
  · have := hk.lt
    simp at hkl
    omega
theorem Rse.turn {l : List En} (h : Right l) (x : En) (h0 : 0 < l.length) (hb : blt (!evn l.length) (nth (l ++ [x]) l.length) (nth (l ++ [x]) ((l.length - 1) / 2))) : Rse (swp (l ++ [x]) l.length ((l.length - 1) / 2)) ((l.length - 1) / 2) := by
  obtain ⟨n, hn⟩ : ∃ n, n = l.length := ⟨_, rfl⟩
  obtain ⟨p, hp⟩ : ∃ p, p = (n - 1) / 2 := ⟨_, rfl⟩
  rw [← hn, ← hp] at hb ⊢
  have hpn : p < n := by omega
  have evp : evn p = !evn n := by rw [hp, evn_par (by omega)]
  have ex : nth (l ++ [x]) n = x := by rw [hn]; exact nth_append_last l x
  have eq : ∀ j, j < n → nth (l ++ [x]) j = nth l j := fun j hj => nth_append_left (by omega)
  have len : (l ++ [x]).length = n + 1 := by simp [hn]
  have N := fun j => nth_swp (l ++ [x]) (i := n) (k := p) j (by omega) (by omega)
  rw [ex, eq p hpn, blt_flip] at hb
  simp only [ex, eq p hpn] at N
  refine ⟨by rw [swp_length, len]; omega, fun j k hk hkl hc => ?_, fun p2 k hk hkl => ?_⟩
  · rw [swp_length, len] at hkl
    have hjk := hk.lt
    rw [N j, N k]
    by_cases jp : j = p
    · subst jp
      rw [if_pos rfl, if_neg (by omega), evp, ble_flip]
      by_cases kn : k = n
      · rw [if_pos kn]; exact ble_of hb
      · rw [if_neg kn, eq k (by omega)]
        have q := h j k hk (by omega)
        rw [evp, ble_flip] at q
        exact ble_trans q (ble_of hb)
    · rw [if_neg jp, if_neg (by omega), eq j (by omega)]
      by_cases kp : k = p
      · subst kp
        rw [if_pos rfl]
        obtain ⟨k0, hpj | ⟨k2, hpj⟩⟩ := hk.par
        · have q := h j k hk (by omega)
          rw [show evn j = evn n by rw [hpj, evn_par k0, evp]; simp] at q ⊢
          exact ble_trans q (ble_of hb)
        · exact absurd ⟨rfl, hpj, k2⟩ hc
      · rw [if_neg kp]
        by_cases kn : k = n
        · subst kn
          rw [if_pos rfl]
          obtain ⟨k0, hpj | ⟨k2, hpj⟩⟩ := hk.par
          · omega
          · have hpj' : j = (p - 1) / 2 := by omega
            exact h j p (by rw [hpj']; exact bel_par (by omega)) (by omega)
        · rw [if_neg kn, eq k (by omega)]
          exact h j k hk (by omega)
  · rw [swp_length, len] at hkl
    have hpk := hk.lt
    rw [N, N k, if_neg (by omega), if_neg (by omega), if_neg (by omega), eq _ (by omega)]
    have q1 := h _ p (bel_gp p2) (by omega)
    rw [evn_gp p2] at q1
    by_cases kn : k = n
    · rw [if_pos kn]; exact q1
    · rw [if_neg kn, eq k (by omega)]
      exact ble_trans q1 (h p k hk (by omega))

/-- The list without the entry at i: the last one stands there. -/
def tak (l : List En) (i : Nat) : List En := (l.set i (nth l (l.length - 1))).take (l.length - 1)
theorem tak_length (l : List En) (i : Nat) : (tak l i).length = l.length - 1 := by simp [tak]
theorem nth_take {l : List En} {n j : Nat} (h : j < n) : nth (l.take n) j = nth l j := by
  unfold nth
  simp only [List.getD_eq_getElem?_getD, List.getElem?_take, if_pos h]
theorem nth_tak {l : List En} {i j : Nat} (hi : i < l.length) (hj : j < l.length - 1) : nth (tak l i) j = if j = i then nth l (l.length - 1) else nth l j := by
  unfold tak
  rw [nth_take hj, nth_set _ _ _ _ hi]
theorem nth_ext {l m : List En} (hl : l.length = m.length) (h : ∀ j, j < l.length → nth l j = nth m j) : l = m := by
  refine List.ext_getElem hl (fun j h1 h2 => ?_)
  have := h j h1
  rwa [nth_get h1, nth_get h2] at this
theorem tak_perm {l : List En} {i : Nat} (hi : i < l.length) : (nth l i :: tak l i).Perm l := by
  have hp := swp_perm l (i := i) (k := l.length - 1) hi (by omega)
  have e : swp l i (l.length - 1) = tak l i ++ [nth l i] := by
    refine nth_ext (by rw [swp_length]; simp [tak_length]; omega) (fun j hj => ?_)
    rw [swp_length] at hj
    rw [nth_swp _ _ hi (by omega)]
    by_cases hj1 : j = l.length - 1
    · rw [if_pos hj1, hj1]
      have := nth_append_last (tak l i) (nth l i)
      rw [tak_length] at this
      rw [this]
    · rw [if_neg hj1, nth_append_left (by rw [tak_length]; omega), nth_tak hi (by omega)]
  rw [e] at hp
  exact (List.perm_append_singleton _ _).symm.trans hp
theorem snk_first {l : List En} (h : Right l) (h2 : 1 < l.length) : Snk 0 (tak l 0) 0 := by
  refine ⟨by omega, by rw [tak_length]; omega, fun j _ hj k hk hkl => ?_, fun h => absurd h (by omega)⟩
  rw [tak_length] at hkl
  have := hk.lt
  rw [nth_tak (by omega) (by omega), nth_tak (by omega) hkl, if_neg hj, if_neg (by omega)]
  exact h j k hk (by omega)
theorem snk_last {l : List En} (h : Right l) {i : Nat} (hi : i = 1 ∨ i = 2) (h2 : i < l.length - 1) : Snk 1 (tak l i) i := by
  refine ⟨by omega, by rw [tak_length]; omega, fun j hj hji k hk hkl => ?_, fun h => absurd h (by omega)⟩
  rw [tak_length] at hkl
  have := hk.lt
  have hk3 : 2 < k := by unfold Bel at hk; omega
  rw [nth_tak (by omega) (by omega), nth_tak (by omega) hkl, if_neg hji, if_neg (by omega)]
  exact h j k hk (by omega)
theorem right_last {l m : List En} (h : Right l) {i : Nat} (hi : i = 1 ∨ i = 2) (h2 : i < l.length - 1) (hs : Same 1 (tak l i) m) (hm : ∀ j, 1 ≤ j → Loc m j) : Right m := by
  intro j
  by_cases hj : 1 ≤ j
  · exact hm j hj
  · obtain rfl : j = 0 := by omega
    intro k hk hkl
    rw [evn_zero, hs.ahead 0 (by omega), nth_tak (by omega) (by omega), if_neg (by omega)]
    have h1 : nth m k ∈ l := by
      have h3 := hs.perm.mem_iff.1 (nth_mem hkl)
      exact (tak_perm (by omega)).mem_iff.1 (List.mem_cons_of_mem _ h3)
    obtain ⟨q, hq, e⟩ := mem_nth h1
    rw [← e]
    exact h.least q hq
theorem right_short {l : List En} (h : Right l) {i : Nat} (hi : i = l.length - 1) (h0 : 0 < l.length) : Right (tak l i) := by
  intro j k hk hkl
  rw [tak_length] at hkl
  have := hk.lt
  rw [nth_tak (by omega) (by omega), nth_tak (by omega) hkl, if_neg (by omega), if_neg (by omega)]
  exact h j k hk (by omega)

/-- What is popped is the first, or the last, of the entries in their order. -/
theorem srt_first {l m : List En} {x : En} (h : (x :: m).Perm l) (hx : ∀ y ∈ l, ble true x y) : srt l = x :: srt m := by
  refine (srt_unique (((srt_perm m).cons x).trans h) ?_).symm
  refine List.pairwise_cons.2 ⟨fun y hy => ?_, srt_srt m⟩
  exact hx y (h.mem_iff.1 (List.mem_cons_of_mem _ ((srt_perm m).mem_iff.1 hy)))
theorem srt_last {l m : List En} {x : En} (h : (x :: m).Perm l) (hx : ∀ y ∈ l, ble true y x) : srt l = srt m ++ [x] := by
  refine (srt_unique ((List.perm_append_singleton _ _).trans (((srt_perm m).cons x).trans h)) ?_).symm
  unfold Srt
  rw [List.pairwise_append]
  refine ⟨srt_srt m, by simp, fun y hy z hz => ?_⟩
  simp at hz
  subst hz
  exact hx y (h.mem_iff.1 (List.mem_cons_of_mem _ ((srt_perm m).mem_iff.1 hy)))
theorem Right.min {l m : List En} (h : Right l) (hm : (nth l 0 :: m).Perm l) : srt l = nth l 0 :: srt m :=
  srt_first hm (fun y hy => by obtain ⟨q, hq, rfl⟩ := mem_nth hy; exact h.least q hq)
theorem Right.max {l m : List En} (h : Right l) (hm : (nth l (lastP l) :: m).Perm l) : srt l = srt m ++ [nth l (lastP l)] :=
  srt_last hm (fun y hy => by obtain ⟨q, hq, rfl⟩ := mem_nth hy; exact h.last q hq)
theorem srt_perm_eq {l m : List En} (h : l.Perm m) : srt l = srt m := srt_unique ((srt_perm l).trans h) (srt_srt l)
end Go.Proofs.Ytiighhcilgjebaa
