/-
  What sink, rise and arrange do (layer 5).
-/
import Derived.Test.YtiighhcilgjebaaHeapSwap
namespace Go.Proofs.Ytiighhcilgjebaa
set_option maxRecDepth 100000
open Go.RowKit Go.Sort

/-- What sink leaves: all from lo on stands right; the entries are the same, and what is ahead of lo. -/
def Sunk (B g n cap lo : Nat) (l : List En) (w : World) (e : Ending) (w' : World) : Prop :=
  ∃ l', e = .returned (.tuple #[]) ∧ Row B g n cap l' w' ∧ w.grownBy w' (some g) ∧ Same lo l l' ∧ ∀ j, lo ≤ j → Loc l' j
/-- The state of its loop. -/
def Sinks (B g n cap lo : Nat) (up : Bool) (l : List En) (w : World) (vi : Value) (wr : World) : Prop :=
  ∃ (l' : List En) (i : Nat), vi = .int .i64 (i : Int) ∧ evn i = up ∧ l'.length = n ∧ Row B g n cap l' wr ∧ w.grownBy wr (some g) ∧ Same lo l l' ∧ Snk lo l' i

set_option maxHeartbeats 4000000 in
theorem sink_any (l : List En) (hn : l.length ≤ 1000) (B g cap lo i : Nat) (w : World) (h : Row B g l.length cap l w) (hs : Snk lo l i) :
    Calls Try.prog 53 #[.slice (some ⟨g, 0, none⟩) l.length cap, .int .i64 (i : Int)] w (Sunk B g l.length cap lo l w) := by
  obtain ⟨n, en⟩ : ∃ n, l.length = n := ⟨_, rfl⟩
  have HI : Hid (Sinks B g n cap lo (evn i) l w (.int .i64 (i : Int)) w) := ⟨l, i, rfl, rfl, en, by rw [← en]; exact h, grown_refl _ _, Same.refl _ _, hs⟩
  have hil := hs.lt
  have EV := even_any i (by omega) w
  rw [en] at hn ⊢
  generalize evn i = up at *
  clear en h hs hil
  go_enter Try.func53, Try.ntmps53
  go_wp2_with fail
  with_reducible refine EV.mono ?_
  rintro e w' ⟨rfl, rfl⟩
  clear EV
  go_wp2
  go_loopw [1] (fun vi wr => Sinks B g n cap lo up l w vi wr) (fun vi _ => 2000 - (intOf vi).toNat)
  case atStart => exact HI.out
  case round =>
    obtain ⟨l', i', rfl, hup, hln, hR, hg, hS, hK⟩ := hrel
    clear HI
    have hil := hK.lt
    have BS := best_any l' (by omega) g cap i' hil up wr (own_list hR)
    rw [hln] at BS hil
    have HUP := Lib.hid hup
    have HLN := Lib.hid hln
    have HR := Lib.hid hR
    have HG := Lib.hid hg
    have HS := Lib.hid hS
    have HK := Lib.hid hK
    clear hup hln hR hg hS hK
    go_wp2_with fail
    with_reducible refine BS.mono ?_
    rintro e w1 ⟨b, hB, hbl, rfl, m1⟩
    have HB := Lib.hid hB
    have HR1 := Lib.hid (HR.out.next m1)
    have HG1 := Lib.hid (grown_trans HG.out m1.grown)
    have hbn : b < n := by rw [← HLN.out]; exact hbl
    clear hB hbl m1 BS HR HG
    by_cases hbi : b = i'
    · subst hbi
      have E : Hid (Sunk B g n cap lo l w (.returned (.tuple #[])) w1) := ⟨l', rfl, HR1.out, HG1.out, HS.out, HK.out.done (by rw [HUP.out]; exact HB.out)⟩
      clear HR1 HG1 HS HK HB
      go_wp2
      refine bodyPost_ret (results_none rfl _ _ _) rfl ?_
      exact E.out
    · have hbi' : ((b : Int) == (i' : Int)) = false := by simp; omega
      have hb0 : i' < b := (HB.out.at_.resolve_left hbi).1.lt
      have SW := swap_any l' B g cap i' b (by rw [HLN.out]; exact hil) (by rw [HLN.out]; exact hbn) w1 (by rw [HLN.out]; exact HR1.out)
      rw [HLN.out] at SW
      have HBI := Lib.hid hbi
      clear hbi
      go_wp2_with fail
      with_reducible refine SW.mono ?_
      rintro e w2 ⟨rfl, hR2, hg2⟩
      have HR2 := Lib.hid hR2
      have HG2 := Lib.hid (grown_trans HG1.out hg2)
      clear hR2 hg2 SW HR1 HG1 hbi'
      have AB := above_any b (by omega) (by omega)
      obtain ⟨p, hp⟩ : ∃ p : Nat, p = (b - 1) / 2 := ⟨_, rfl⟩
      rw [← hp] at AB
      have HP := Lib.hid hp
      have hpb : p < b := by omega
      clear hp
      go_wp2_with fail
      with_reducible refine (AB _).mono ?_
      rintro e w' ⟨rfl, rfl⟩
      by_cases hpi : p = i'
      · subst hpi
        have E : Hid (Sunk B g n cap lo l w (.returned (.tuple #[])) w2) := ⟨_, rfl, HR2.out, HG2.out, HS.out.swp (by rw [HLN.out]; exact hil) (by rw [HLN.out]; exact hbn) HK.out.ge (Nat.le_trans HK.out.ge (by omega)), HK.out.child (by rw [HUP.out]; exact HB.out) HBI.out HP.out.symm⟩
        clear HR2 HG2 HS HK HB HBI AB
        go_wp2
        refine bodyPost_ret (results_none rfl _ _ _) rfl ?_
        exact E.out
      · have hpi' : ((p : Int) == (i' : Int)) = false := by simp; omega
        have BT := beats_any (swp l' i' b) g cap p b up w2 (own_list HR2.out) (by rw [swp_length, HLN.out]; omega) (by rw [swp_length, HLN.out]; exact hbn)
        rw [swp_length, HLN.out] at BT
        have H2 := HK.out.two (by rw [HUP.out]; exact HB.out) HBI.out (by rw [← HP.out]; exact hpi)
        rw [HUP.out] at H2
        have HPI := Lib.hid hpi
        unfold Go.Proofs.Ytiighhcilgjebaa.two at H2
        rw [← HP.out] at H2
        have HEV : Hid (evn b = up) := by
          show _ = _
          have q := HB.out.at_.resolve_left HBI.out
          obtain ⟨b0, q1 | ⟨b2, q1⟩⟩ := q.1.par
          · exact absurd (q1.trans HP.out.symm).symm hpi
          · rw [← HUP.out, q1, evn_gp b2]
        cases hr : bltB up (nth (swp l' i' b) p) (nth (swp l' i' b) b) with
        | false =>
          rw [hr, if_neg (by simp)] at H2
          rw [hr] at BT
          have E : ∀ w3, More w2 w3 → Hid (Sinks B g n cap lo up l w (.int .i64 (b : Int)) w3) := fun w3 m3 => ⟨_, b, rfl, HEV.out, by rw [swp_length]; exact HLN.out, HR2.out.next m3, grown_trans HG2.out m3.grown, HS.out.swp (by rw [HLN.out]; exact hil) (by rw [HLN.out]; exact hbn) HK.out.ge (Nat.le_trans HK.out.ge (by omega)), H2.1⟩
          have HE := Lib.hid E
          clear E H2 hr HR2 HG2 HS HK HB HBI HEV hpi
          go_wp2_with (go_at_call 71; (with_reducible refine (AB _).mono ?_); rintro e w' ⟨rfl, rfl⟩)
          with_reducible refine BT.mono ?_
          rintro e w3 ⟨rfl, m3⟩
          have EE := HE.out w3 m3
          clear m3 HE BT
          go_wp2
          go_roundw
          case rel => exact EE.out
          case measure => simp [intOf]; omega
        | true =>
          rw [hr, if_pos rfl] at H2
          rw [hr] at BT
          have SW2 := fun w3 (m3 : More w2 w3) => swap_any (swp l' i' b) B g cap p b (by rw [swp_length, HLN.out]; omega) (by rw [swp_length, HLN.out]; exact hbn) w3 (by rw [swp_length, HLN.out]; exact HR2.out.next m3)
          rw [swp_length, HLN.out] at SW2
          have HSW := Lib.hid SW2
          have hip : i' < p := by
            have q := HB.out.at_.resolve_left HBI.out
            obtain ⟨b0, q1 | ⟨b2, q1⟩⟩ := q.1.par
            · exact absurd (q1.trans HP.out.symm).symm hpi
            · have := HP.out; omega
          have E : ∀ w3 w4, More w2 w3 → Row B g n cap (swp (swp l' i' b) p b) w4 → w3.grownBy w4 (some g) → Hid (Sinks B g n cap lo up l w (.int .i64 (b : Int)) w4) := fun w3 w4 m3 r4 g4 => ⟨_, b, rfl, HEV.out, by rw [swp_length, swp_length]; exact HLN.out, r4, grown_trans (grown_trans HG2.out m3.grown) g4,
            (HS.out.swp (by rw [HLN.out]; exact hil) (by rw [HLN.out]; exact hbn) HK.out.ge (Nat.le_trans HK.out.ge (by omega))).swp (by rw [swp_length, HLN.out]; omega) (by rw [swp_length, HLN.out]; exact hbn) (Nat.le_trans HK.out.ge (by omega)) (Nat.le_trans HK.out.ge (by omega)), H2.1⟩
          have HE := Lib.hid E
          clear E H2 hr HR2 HG2 HS HK HB HBI HEV hpi SW2
          go_wp2_with (go_at_call 71; (with_reducible refine (AB _).mono ?_); rintro e w' ⟨rfl, rfl⟩)
          with_reducible refine BT.mono ?_
          rintro e w3 ⟨rfl, m3⟩
          have M3 := Lib.hid m3
          clear m3 BT
          have SW3 := HSW.out w3 M3.out
          clear HSW
          go_wp2_with (go_at_call 71; (with_reducible refine (AB _).mono ?_); rintro e w' ⟨rfl, rfl⟩)
          with_reducible refine SW3.mono ?_
          rintro e w4 ⟨rfl, hR4, hg4⟩
          have EE := HE.out w3 w4 M3.out hR4 hg4
          clear hR4 hg4 SW3 HE AB
          go_wp2
          go_roundw
          case rel => exact EE.out
          case measure => simp [intOf]; omega

/-- What rise leaves. -/
def Risen (B g n cap : Nat) (l : List En) (w : World) (e : Ending) (w' : World) : Prop :=
  ∃ l', e = .returned (.tuple #[]) ∧ Row B g n cap l' w' ∧ w.grownBy w' (some g) ∧ l'.Perm l ∧ Right l'
/-- The state of its loop. -/
def Rises (B g n cap : Nat) (u : Bool) (l : List En) (w : World) (vi : Value) (wr : World) : Prop :=
  ∃ (l' : List En) (i : Nat), vi = .int .i64 (i : Int) ∧ evn i = u ∧ l'.length = n ∧ Row B g n cap l' wr ∧ w.grownBy wr (some g) ∧ l'.Perm l ∧ Rse l' i

set_option maxHeartbeats 4000000 in
theorem rise_any (l : List En) (x : En) (hn : l.length ≤ 900) (B g cap : Nat) (w : World) (h : Row B g (l.length + 1) cap (l ++ [x]) w) (hr : Right l) :
    Calls Try.prog 121 #[.slice (some ⟨g, 0, none⟩) (l.length + 1) cap, .int .i64 (l.length : Int)] w (Risen B g (l.length + 1) cap (l ++ [x]) w) := by
  obtain ⟨m, em⟩ : ∃ m, l.length = m := ⟨_, rfl⟩
  obtain ⟨n, en⟩ : ∃ n, n = m + 1 := ⟨_, rfl⟩
  have hlen : (l ++ [x]).length = n := by simp [em, en]
  have EV := even_any m (by omega) w
  have AB := fun (i : Nat) (h0 : 0 < i) (hi : i < n) => above_any i h0 (by omega)
  have BT := fun (l' : List En) (hl : l'.length = n) (i k : Nat) (hi : i < n) (hk : k < n) (up : Bool) (w' : World) (hR : Row B g n cap l' w') => beats_any l' g cap i k up w' (own_list hR) (by omega) (by omega)
  have SW := fun (l' : List En) (hl : l'.length = n) (i k : Nat) (hi : i < n) (hk : k < n) (w' : World) (hR : Row B g n cap l' w') => swap_any l' B g cap i k (by omega) (by omega) w' (by rw [hl]; exact hR)
  have HEM := Lib.hid em
  have HEN := Lib.hid en
  have HR : Hid (Row B g n cap (l ++ [x]) w) := by show Row _ _ _ _ _ _; rw [em, ← en] at h; exact h
  have HRT := Lib.hid hr
  have HAB := Lib.hid AB
  have HBT : Hid (∀ (l' : List En), l'.length = n → ∀ (i k : Nat), i < n → k < n → ∀ (up : Bool) (w' : World), Row B g n cap l' w' → Calls Try.prog 72 #[.slice (some ⟨g, 0, none⟩) n cap, .int .i64 (i : Int), .int .i64 (k : Int), .bool up] w' fun e w'' => e = .returned (.bool (bltB up (nth l' i) (nth l' k))) ∧ More w' w'') := fun l' hl i k hi hk up w' hR => by have := BT l' hl i k hi hk up w' hR; rw [hl] at this; exact this
  have HSW : Hid (∀ (l' : List En), l'.length = n → ∀ (i k : Nat), i < n → k < n → ∀ (w' : World), Row B g n cap l' w' → Calls Try.prog 70 #[.slice (some ⟨g, 0, none⟩) n cap, .int .i64 (i : Int), .int .i64 (k : Int)] w' fun e w'' => e = .returned (.tuple #[]) ∧ Row B g n cap (swp l' i k) w'' ∧ w'.grownBy w'' (some g)) := fun l' hl i k hi hk w' hR => by have := SW l' hl i k hi hk w' hR; rw [hl] at this; exact this
  have HLEN := Lib.hid hlen
  rw [em, ← en]
  rw [em] at hn
  have hmn : m < n := by omega
  have hnn : n ≤ 901 := by omega
  clear AB BT SW em en h hr hlen
  go_enter Try.func121, Try.ntmps121
  go_wp2_with fail
  with_reducible refine EV.mono ?_
  rintro e w' ⟨rfl, rfl⟩
  clear EV
  by_cases h0 : m = 0
  · subst h0
    have HST : Hid (Rises B g n cap (evn 0) (l ++ [x]) w (.int .i64 0) w) := ⟨_, 0, rfl, rfl, HLEN.out, HR.out, grown_refl _ _, List.Perm.refl _, by have h := Rse.stay HRT.out x (.inl HEM.out); rw [HEM.out] at h; exact h⟩
    generalize evn 0 = u at *
    go_wp2
    go_loopw [1] (fun vi wr => Rises B g n cap u (l ++ [x]) w vi wr) (fun vi _ => (intOf vi).toNat)
    case atStart => exact HST.out
    case round =>
      obtain ⟨l', i, rfl, hup, hln, hR, hg, hP, hK⟩ := hrel
      clear HST
      have hil := hK.lt
      rw [hln] at hil
      have HUP := Lib.hid hup
      have HLN := Lib.hid hln
      have HR1 := Lib.hid hR
      have HG1 := Lib.hid hg
      have HP1 := Lib.hid hP
      have HK := Lib.hid hK
      clear hup hln hR hg hP hK
      by_cases h2 : 2 < i
      · have h2' : (2 : Int) < (i : Int) := by omega
        have AB1 := HAB.out i (by omega) hil
        have AB2 := HAB.out ((i - 1) / 2) (by omega) (by omega)
        obtain ⟨p, hp⟩ : ∃ p : Nat, p = (i - 1) / 2 := ⟨_, rfl⟩
        obtain ⟨G, hG⟩ : ∃ G : Nat, G = (p - 1) / 2 := ⟨_, rfl⟩
        rw [← hp] at AB1 AB2
        rw [← hG] at AB2
        have hGi : G < i := by omega
        have eG : ((i - 1) / 2 - 1) / 2 = G := by rw [hG, hp]
        have HEG := Lib.hid eG
        have BT := HBT.out l' HLN.out i G hil (by omega) u wr HR1.out
        clear hp hG eG
        cases hr : bltB u (nth l' i) (nth l' G) with
        | true =>
          have hr' := (bltB_iff _ _ _).1 hr
          have HS := HK.out.step h2 (by rw [HUP.out, HEG.out]; exact hr')
          rw [HEG.out] at HS
          have SW := fun w3 (m3 : More wr w3) => HSW.out l' HLN.out i G hil (by omega) w3 (HR1.out.next m3)
          have E : ∀ w3 w4, More wr w3 → Row B g n cap (swp l' i G) w4 → w3.grownBy w4 (some g) → Hid (Rises B g n cap u (l ++ [x]) w (.int .i64 (G : Int)) w4) := fun w3 w4 m3 r4 g4 =>
            ⟨_, G, rfl, by rw [← HEG.out, evn_gp h2]; exact HUP.out, by rw [swp_length]; exact HLN.out, r4, grown_trans (grown_trans HG1.out m3.grown) g4, (swp_perm _ (by rw [HLN.out]; exact hil) (by rw [HLN.out]; omega)).trans HP1.out, HS⟩
          have HE := Lib.hid E
          have HSW2 := Lib.hid SW
          rw [hr] at BT
          clear hr hr' HS SW E HK HR1 HG1 HP1
          go_wp2_with (first | (go_at_call 71; (with_reducible refine (AB1 _).mono ?_); rintro e w' ⟨rfl, rfl⟩) | (go_at_call 71; (with_reducible refine (AB2 _).mono ?_); rintro e w' ⟨rfl, rfl⟩))
          with_reducible refine BT.mono ?_
          rintro e w3 ⟨rfl, m3⟩
          have M3 := Lib.hid m3
          clear m3 BT
          have SW3 := HSW2.out w3 M3.out
          clear HSW2
          go_wp2_with (first | (go_at_call 71; (with_reducible refine (AB1 _).mono ?_); rintro e w' ⟨rfl, rfl⟩) | (go_at_call 71; (with_reducible refine (AB2 _).mono ?_); rintro e w' ⟨rfl, rfl⟩))
          with_reducible refine SW3.mono ?_
          rintro e w4 ⟨rfl, hR4, hg4⟩
          have EE := HE.out w3 w4 M3.out hR4 hg4
          clear hR4 hg4 SW3 HE
          go_wp2_with (first | (go_at_call 71; (with_reducible refine (AB1 _).mono ?_); rintro e w' ⟨rfl, rfl⟩) | (go_at_call 71; (with_reducible refine (AB2 _).mono ?_); rintro e w' ⟨rfl, rfl⟩))
          go_roundw
          case rel => exact EE.out
          case measure => simp [intOf]; omega
        | false =>
          have hr' := (bltB_false _ _ _).1 hr
          have E : ∀ w3, More wr w3 → Hid (Risen B g n cap (l ++ [x]) w (.returned (.tuple #[])) w3) := fun w3 m3 => ⟨l', rfl, HR1.out.next m3, grown_trans HG1.out m3.grown, HP1.out, HK.out.done (.inr (by rw [HUP.out, HEG.out]; exact hr'))⟩
          have HE := Lib.hid E
          rw [hr] at BT
          clear hr hr' E HK HR1 HG1 HP1
          go_wp2_with (first | (go_at_call 71; (with_reducible refine (AB1 _).mono ?_); rintro e w' ⟨rfl, rfl⟩) | (go_at_call 71; (with_reducible refine (AB2 _).mono ?_); rintro e w' ⟨rfl, rfl⟩))
          with_reducible refine BT.mono ?_
          rintro e w3 ⟨rfl, m3⟩
          have EE := HE.out w3 m3
          clear m3 BT HE
          go_wp2
          go_end0
          exact EE.out
      · have h2' : ¬ (2 : Int) < (i : Int) := by omega
        have E : Hid (Risen B g n cap (l ++ [x]) w (.returned (.tuple #[])) wr) := ⟨l', rfl, HR1.out, HG1.out, HP1.out, HK.out.done (.inl (by omega))⟩
        clear HK HR1 HG1 HP1
        go_wp2
        go_end0
        exact E.out
  · have h0' : (0 : Int) < (m : Int) := by omega
    have AB1 := HAB.out m (by omega) hmn
    obtain ⟨p, hp⟩ : ∃ p : Nat, p = (m - 1) / 2 := ⟨_, rfl⟩
    rw [← hp] at AB1
    have hpm : p < m := by omega
    have HPP := Lib.hid hp
    have BT := HBT.out (l ++ [x]) HLEN.out m p hmn (by omega) (!evn m) w HR.out
    clear hp
    cases hr : bltB (!evn m) (nth (l ++ [x]) m) (nth (l ++ [x]) p) with
    | false =>
      have hr' := (bltB_false _ _ _).1 hr
      have HST0 : Hid (∀ w', More w w' → Rises B g n cap (evn m) (l ++ [x]) w (.int .i64 (m : Int)) w') := fun w' m' => ⟨_, m, rfl, rfl, HLEN.out, HR.out.next m', m'.grown, List.Perm.refl _, by have h := Rse.stay HRT.out x (.inr (by rw [HEM.out, ← HPP.out]; exact hr')); rw [HEM.out] at h; exact h⟩
      rw [hr] at BT
      clear hr hr'
      generalize evn m = u at *
      go_wp2_with (go_at_call 71; (with_reducible refine (AB1 _).mono ?_); rintro e w' ⟨rfl, rfl⟩)
      with_reducible refine BT.mono ?_
      rintro e w3 ⟨rfl, m3⟩
      have HST := Lib.hid (HST0.out w3 m3)
      clear m3 BT HST0 AB1 HR HRT
      go_wp2
      go_loopw [1] (fun vi wr => Rises B g n cap u (l ++ [x]) w vi wr) (fun vi _ => (intOf vi).toNat)
      case atStart => exact HST.out
      case round =>
        obtain ⟨l', i, rfl, hup, hln, hR, hg, hP, hK⟩ := hrel
        clear HST
        have hil := hK.lt
        rw [hln] at hil
        have HUP := Lib.hid hup
        have HLN := Lib.hid hln
        have HR1 := Lib.hid hR
        have HG1 := Lib.hid hg
        have HP1 := Lib.hid hP
        have HK := Lib.hid hK
        clear hup hln hR hg hP hK
        by_cases h2 : 2 < i
        · have h2' : (2 : Int) < (i : Int) := by omega
          have AB1 := HAB.out i (by omega) hil
          have AB2 := HAB.out ((i - 1) / 2) (by omega) (by omega)
          obtain ⟨p, hp⟩ : ∃ p : Nat, p = (i - 1) / 2 := ⟨_, rfl⟩
          obtain ⟨G, hG⟩ : ∃ G : Nat, G = (p - 1) / 2 := ⟨_, rfl⟩
          rw [← hp] at AB1 AB2
          rw [← hG] at AB2
          have hGi : G < i := by omega
          have eG : ((i - 1) / 2 - 1) / 2 = G := by rw [hG, hp]
          have HEG := Lib.hid eG
          have BT := HBT.out l' HLN.out i G hil (by omega) u wr HR1.out
          clear hp hG eG
          cases hr : bltB u (nth l' i) (nth l' G) with
          | true =>
            have hr' := (bltB_iff _ _ _).1 hr
            have HS := HK.out.step h2 (by rw [HUP.out, HEG.out]; exact hr')
            rw [HEG.out] at HS
            have SW := fun w3 (m3 : More wr w3) => HSW.out l' HLN.out i G hil (by omega) w3 (HR1.out.next m3)
            have E : ∀ w3 w4, More wr w3 → Row B g n cap (swp l' i G) w4 → w3.grownBy w4 (some g) → Hid (Rises B g n cap u (l ++ [x]) w (.int .i64 (G : Int)) w4) := fun w3 w4 m3 r4 g4 =>
              ⟨_, G, rfl, by rw [← HEG.out, evn_gp h2]; exact HUP.out, by rw [swp_length]; exact HLN.out, r4, grown_trans (grown_trans HG1.out m3.grown) g4, (swp_perm _ (by rw [HLN.out]; exact hil) (by rw [HLN.out]; omega)).trans HP1.out, HS⟩
            have HE := Lib.hid E
            have HSW2 := Lib.hid SW
            rw [hr] at BT
            clear hr hr' HS SW E HK HR1 HG1 HP1
            go_wp2_with (first | (go_at_call 71; (with_reducible refine (AB1 _).mono ?_); rintro e w' ⟨rfl, rfl⟩) | (go_at_call 71; (with_reducible refine (AB2 _).mono ?_); rintro e w' ⟨rfl, rfl⟩))
            with_reducible refine BT.mono ?_
            rintro e w3 ⟨rfl, m3⟩
            have M3 := Lib.hid m3
            clear m3 BT
            have SW3 := HSW2.out w3 M3.out
            clear HSW2
            go_wp2_with (first | (go_at_call 71; (with_reducible refine (AB1 _).mono ?_); rintro e w' ⟨rfl, rfl⟩) | (go_at_call 71; (with_reducible refine (AB2 _).mono ?_); rintro e w' ⟨rfl, rfl⟩))
            with_reducible refine SW3.mono ?_
            rintro e w4 ⟨rfl, hR4, hg4⟩
            have EE := HE.out w3 w4 M3.out hR4 hg4
            clear hR4 hg4 SW3 HE
            go_wp2_with (first | (go_at_call 71; (with_reducible refine (AB1 _).mono ?_); rintro e w' ⟨rfl, rfl⟩) | (go_at_call 71; (with_reducible refine (AB2 _).mono ?_); rintro e w' ⟨rfl, rfl⟩))
            go_roundw
            case rel => exact EE.out
            case measure => simp [intOf]; omega
          | false =>
            have hr' := (bltB_false _ _ _).1 hr
            have E : ∀ w3, More wr w3 → Hid (Risen B g n cap (l ++ [x]) w (.returned (.tuple #[])) w3) := fun w3 m3 => ⟨l', rfl, HR1.out.next m3, grown_trans HG1.out m3.grown, HP1.out, HK.out.done (.inr (by rw [HUP.out, HEG.out]; exact hr'))⟩
            have HE := Lib.hid E
            rw [hr] at BT
            clear hr hr' E HK HR1 HG1 HP1
            go_wp2_with (first | (go_at_call 71; (with_reducible refine (AB1 _).mono ?_); rintro e w' ⟨rfl, rfl⟩) | (go_at_call 71; (with_reducible refine (AB2 _).mono ?_); rintro e w' ⟨rfl, rfl⟩))
            with_reducible refine BT.mono ?_
            rintro e w3 ⟨rfl, m3⟩
            have EE := HE.out w3 m3
            clear m3 BT HE
            go_wp2
            go_end0
            exact EE.out
        · have h2' : ¬ (2 : Int) < (i : Int) := by omega
          have E : Hid (Risen B g n cap (l ++ [x]) w (.returned (.tuple #[])) wr) := ⟨l', rfl, HR1.out, HG1.out, HP1.out, HK.out.done (.inl (by omega))⟩
          clear HK HR1 HG1 HP1
          go_wp2
          go_end0
          exact E.out
    | true =>
      have hr' := (bltB_iff _ _ _).1 hr
      have SW := fun w3 (m3 : More w w3) => HSW.out (l ++ [x]) HLEN.out m p hmn (by omega) w3 (HR.out.next m3)
      have HSW2 := Lib.hid SW
      have HST0 : Hid (∀ w3 w4, More w w3 → Row B g n cap (swp (l ++ [x]) m p) w4 → w3.grownBy w4 (some g) → Rises B g n cap (!evn m) (l ++ [x]) w (.int .i64 (p : Int)) w4) := fun w3 w4 m3 r4 g4 =>
        ⟨_, p, rfl, by rw [HPP.out, evn_par (by omega)], by rw [swp_length]; exact HLEN.out, r4, grown_trans m3.grown g4, swp_perm _ (by rw [HLEN.out]; exact hmn) (by rw [HLEN.out]; omega), by have h := Rse.turn HRT.out x (by rw [HEM.out]; omega) (by rw [HEM.out, ← HPP.out]; exact hr'); rw [HEM.out, ← HPP.out] at h; exact h⟩
      rw [hr] at BT
      clear hr hr' SW
      obtain ⟨u, hu⟩ : ∃ u, (!evn m) = u := ⟨_, rfl⟩
      have HU := Lib.hid hu
      rw [hu] at BT HST0
      obtain ⟨v, hv⟩ : ∃ v, evn m = v := ⟨_, rfl⟩
      rw [hv] at hu
      rw [hv]
      clear hv
      go_wp2_with (go_at_call 71; (with_reducible refine (AB1 _).mono ?_); rintro e w' ⟨rfl, rfl⟩)
      with_reducible refine BT.mono ?_
      rintro e w3 ⟨rfl, m3⟩
      have M3 := Lib.hid m3
      clear m3 BT
      have SW3 := HSW2.out w3 M3.out
      clear HSW2
      go_wp2_with (go_at_call 71; (with_reducible refine (AB1 _).mono ?_); rintro e w' ⟨rfl, rfl⟩)
      with_reducible refine SW3.mono ?_
      rintro e w4 ⟨rfl, hR4, hg4⟩
      have HST := Lib.hid (HST0.out w3 w4 M3.out hR4 hg4)
      clear hR4 hg4 SW3 HST0 HR HRT
      go_wp2_with (go_at_call 71; (with_reducible refine (AB1 _).mono ?_); rintro e w' ⟨rfl, rfl⟩)
      clear AB1
      go_loopw [1] (fun vi wr => Rises B g n cap u (l ++ [x]) w vi wr) (fun vi _ => (intOf vi).toNat)
      case atStart => exact HST.out
      case round =>
        obtain ⟨l', i, rfl, hup, hln, hR, hg, hP, hK⟩ := hrel
        clear HST
        have hil := hK.lt
        rw [hln] at hil
        have HUP := Lib.hid hup
        have HLN := Lib.hid hln
        have HR1 := Lib.hid hR
        have HG1 := Lib.hid hg
        have HP1 := Lib.hid hP
        have HK := Lib.hid hK
        clear hup hln hR hg hP hK
        by_cases h2 : 2 < i
        · have h2' : (2 : Int) < (i : Int) := by omega
          have AB1 := HAB.out i (by omega) hil
          have AB2 := HAB.out ((i - 1) / 2) (by omega) (by omega)
          obtain ⟨p, hp⟩ : ∃ p : Nat, p = (i - 1) / 2 := ⟨_, rfl⟩
          obtain ⟨G, hG⟩ : ∃ G : Nat, G = (p - 1) / 2 := ⟨_, rfl⟩
          rw [← hp] at AB1 AB2
          rw [← hG] at AB2
          have hGi : G < i := by omega
          have eG : ((i - 1) / 2 - 1) / 2 = G := by rw [hG, hp]
          have HEG := Lib.hid eG
          have BT := HBT.out l' HLN.out i G hil (by omega) u wr HR1.out
          clear hp hG eG
          cases hr : bltB u (nth l' i) (nth l' G) with
          | true =>
            have hr' := (bltB_iff _ _ _).1 hr
            have HS := HK.out.step h2 (by rw [HUP.out, HEG.out]; exact hr')
            rw [HEG.out] at HS
            have SW := fun w3 (m3 : More wr w3) => HSW.out l' HLN.out i G hil (by omega) w3 (HR1.out.next m3)
            have E : ∀ w3 w4, More wr w3 → Row B g n cap (swp l' i G) w4 → w3.grownBy w4 (some g) → Hid (Rises B g n cap u (l ++ [x]) w (.int .i64 (G : Int)) w4) := fun w3 w4 m3 r4 g4 =>
              ⟨_, G, rfl, by rw [← HEG.out, evn_gp h2]; exact HUP.out, by rw [swp_length]; exact HLN.out, r4, grown_trans (grown_trans HG1.out m3.grown) g4, (swp_perm _ (by rw [HLN.out]; exact hil) (by rw [HLN.out]; omega)).trans HP1.out, HS⟩
            have HE := Lib.hid E
            have HSW2 := Lib.hid SW
            rw [hr] at BT
            clear hr hr' HS SW E HK HR1 HG1 HP1
            go_wp2_with (first | (go_at_call 71; (with_reducible refine (AB1 _).mono ?_); rintro e w' ⟨rfl, rfl⟩) | (go_at_call 71; (with_reducible refine (AB2 _).mono ?_); rintro e w' ⟨rfl, rfl⟩))
            with_reducible refine BT.mono ?_
            rintro e w3 ⟨rfl, m3⟩
            have M3 := Lib.hid m3
            clear m3 BT
            have SW3 := HSW2.out w3 M3.out
            clear HSW2
            go_wp2_with (first | (go_at_call 71; (with_reducible refine (AB1 _).mono ?_); rintro e w' ⟨rfl, rfl⟩) | (go_at_call 71; (with_reducible refine (AB2 _).mono ?_); rintro e w' ⟨rfl, rfl⟩))
            with_reducible refine SW3.mono ?_
            rintro e w4 ⟨rfl, hR4, hg4⟩
            have EE := HE.out w3 w4 M3.out hR4 hg4
            clear hR4 hg4 SW3 HE
            go_wp2_with (first | (go_at_call 71; (with_reducible refine (AB1 _).mono ?_); rintro e w' ⟨rfl, rfl⟩) | (go_at_call 71; (with_reducible refine (AB2 _).mono ?_); rintro e w' ⟨rfl, rfl⟩))
            go_roundw
            case rel => exact EE.out
            case measure => simp [intOf]; omega
          | false =>
            have hr' := (bltB_false _ _ _).1 hr
            have E : ∀ w3, More wr w3 → Hid (Risen B g n cap (l ++ [x]) w (.returned (.tuple #[])) w3) := fun w3 m3 => ⟨l', rfl, HR1.out.next m3, grown_trans HG1.out m3.grown, HP1.out, HK.out.done (.inr (by rw [HUP.out, HEG.out]; exact hr'))⟩
            have HE := Lib.hid E
            rw [hr] at BT
            clear hr hr' E HK HR1 HG1 HP1
            go_wp2_with (first | (go_at_call 71; (with_reducible refine (AB1 _).mono ?_); rintro e w' ⟨rfl, rfl⟩) | (go_at_call 71; (with_reducible refine (AB2 _).mono ?_); rintro e w' ⟨rfl, rfl⟩))
            with_reducible refine BT.mono ?_
            rintro e w3 ⟨rfl, m3⟩
            have EE := HE.out w3 m3
            clear m3 BT HE
            go_wp2
            go_end0
            exact EE.out
        · have h2' : ¬ (2 : Int) < (i : Int) := by omega
          have E : Hid (Risen B g n cap (l ++ [x]) w (.returned (.tuple #[])) wr) := ⟨l', rfl, HR1.out, HG1.out, HP1.out, HK.out.done (.inl (by omega))⟩
          clear HK HR1 HG1 HP1
          go_wp2
          go_end0
          exact E.out

/-- The state of arrange's loop. -/
def Arranges (B g n cap : Nat) (l : List En) (w : World) (vi : Value) (wr : World) : Prop :=
  ∃ (l' : List En) (m : Nat), vi = .int .i64 ((m : Int) - 1) ∧ m ≤ n ∧ l'.length = n ∧ Row B g n cap l' wr ∧ w.grownBy wr (some g) ∧ l'.Perm l ∧ ∀ j, m ≤ j → Loc l' j
set_option maxHeartbeats 2000000 in
theorem arrange_any (l : List En) (hn : l.length ≤ 1000) (B g cap : Nat) (w : World) (h : Row B g l.length cap l w) :
    Calls Try.prog 47 #[.slice (some ⟨g, 0, none⟩) l.length cap] w (Risen B g l.length cap l w) := by
  obtain ⟨n, en⟩ : ∃ n, l.length = n := ⟨_, rfl⟩
  have HST : Hid (Arranges B g n cap l w (.int .i64 ((n : Int) / 2 - 1)) w) := by
    refine ⟨l, n / 2, by rw [show ((n / 2 : Nat) : Int) = (n : Int) / 2 by omega], by omega, en, by rw [← en]; exact h, grown_refl _ _, List.Perm.refl _, fun j hj k hk hkl => ?_⟩
    have := hk
    unfold Bel at this
    omega
  rw [en] at hn ⊢
  clear en h
  go_enter Try.func47, Try.ntmps47
  go_wp2
  go_loopw [2] (fun vi wr => Arranges B g n cap l w vi wr) (fun vi _ => (intOf vi + 1).toNat)
  case atStart => exact HST.out
  case round =>
    obtain ⟨l', m, rfl, hmn, hln, hR, hg, hP, hL⟩ := hrel
    clear HST
    by_cases h0 : m = 0
    · subst h0
      have E : Hid (Risen B g n cap l w (.returned (.tuple #[])) wr) := ⟨l', rfl, hR, hg, hP, fun j => hL j (by omega)⟩
      clear hln hR hg hP hL
      go_wp2
      go_end0
      exact E.out
    · obtain ⟨i, rfl⟩ : ∃ i, m = i + 1 := ⟨m - 1, by omega⟩
      rw [show (((i + 1 : Nat) : Int) - 1) = (i : Int) by omega]
      have hs : Snk i l' i := ⟨Nat.le_refl _, by omega, fun j hj hji => hL j (by omega), fun h2 hlo => absurd hlo (by omega)⟩
      have SK := sink_any l' (by omega) B g cap i i wr (by rw [hln]; exact hR) hs
      rw [hln] at SK
      have E : ∀ w3 l3, Row B g n cap l3 w3 → wr.grownBy w3 (some g) → Same i l' l3 → (∀ j, i ≤ j → Loc l3 j) → Hid (Arranges B g n cap l w (.int .i64 ((i : Int) - 1)) w3) := fun w3 l3 r3 g3 s3 c3 =>
        ⟨l3, i, rfl, by omega, s3.len.trans hln, r3, grown_trans hg g3, s3.perm.trans hP, c3⟩
      have HE := Lib.hid E
      clear E hln hR hg hP hL hs
      go_wp2_with fail
      with_reducible refine SK.mono ?_
      rintro e w3 ⟨l3, rfl, r3, g3, s3, c3⟩
      have EE := HE.out w3 l3 r3 g3 s3 c3
      clear r3 g3 s3 c3 HE SK
      go_wp2
      go_roundw
      case rel => exact EE.out
      case measure => simp [intOf]
end Go.Proofs.Ytiighhcilgjebaa
