/-
  What sink, rise, arrange and settle do (layer 6).
-/
import Derived.Test.YtiighhcilgjebaaISwap
import Derived.Test.YtiighhcilgjebaaIMath2
namespace Go.Proofs.Ytiighhcilgjebaa.I
set_option maxRecDepth 100000
open Go.RowKit Go.Sort

/-- What sink leaves. -/
def Sunk (B g n cap lo lo1 : Nat) (up : Bool) (l : List En) (w : World) (e : Ending) (w' : World) : Prop :=
  ∃ l', e = .returned (.tuple #[]) ∧ Row B g n cap l' w' ∧ w.grownBy w' (some g) ∧ l'.Perm l ∧ Stood lo lo1 up l'
/-- The state of its loop. -/
def Sinks (B g n cap lo lo1 : Nat) (up : Bool) (l : List En) (w : World) (vi : Value) (wr : World) : Prop :=
  ∃ (l' : List En) (k : Nat), vi = .int .i64 (k : Int) ∧ k ≤ 1000 ∧ (2 * k < n ∨ n = 0) ∧ l'.length = n ∧ Row B g n cap l' wr ∧ w.grownBy wr (some g) ∧ l'.Perm l ∧ Snk lo lo1 up l' k
theorem ord_empty {l : List En} {k : Nat} (h : l.length = 0) : ord l k = l := by unfold ord; rw [if_neg (by omega)]
theorem exc_perm (l : List En) (up : Bool) {k b : Nat} (hk : 2 * k < l.length) (hb : 2 * b < l.length) : (exc l up k b).Perm l := swp_perm _ (pl_lt up hk) (pl_lt up hb)

set_option maxHeartbeats 4000000 in
theorem sink_any (l : List En) (hn : l.length ≤ 1000) (B g cap lo lo1 k : Nat) (up : Bool) (hk : k ≤ 1000) (hkl : 2 * k < l.length ∨ l.length = 0) (w : World) (h : Row B g l.length cap l w) (hs : Snk lo lo1 up l k) :
    Calls Try.prog 52 #[.slice (some ⟨g, 0, none⟩) l.length cap, .int .i64 (k : Int), .bool (!up)] w (Sunk B g l.length cap lo lo1 up l w) := by
  obtain ⟨n, en⟩ : ∃ n, l.length = n := ⟨_, rfl⟩
  have HI : Hid (Sinks B g n cap lo lo1 up l w (.int .i64 (k : Int)) w) := ⟨l, k, rfl, hk, by rw [← en]; exact hkl, en, by rw [← en]; exact h, grown_refl _ _, List.Perm.refl _, hs⟩
  have EX := fun (l' : List En) (hl : l'.length = n) (i b : Nat) (hi : 2 * i < n) (hb : 2 * b < n) (w' : World) (hR : Row B g n cap l' w') => exchange_any l' B g cap i b up (by omega) (by omega) (by omega) w' (by rw [hl]; exact hR)
  have BS := fun (l' : List En) (hl : l'.length = n) (i : Nat) (hi : i ≤ 1000) (w' : World) (hR : Row B g n cap l' w') => best_any l' (by omega) g cap i hi up w' (own_list hR)
  have HEX := Lib.hid EX
  have HBS := Lib.hid BS
  rw [en] at hn ⊢
  clear en h hs hk hkl EX BS
  obtain ⟨hh, ehh⟩ : ∃ hh, (!up) = hh := ⟨_, rfl⟩
  have EHH := Lib.hid ehh
  rw [ehh]
  clear ehh
  go_enter Try.func52, Try.ntmps52
  go_wp2
  go_loopw [1] (fun vi wr => Sinks B g n cap lo lo1 up l w vi wr) (fun vi _ => 2000 - (intOf vi).toNat)
  case atStart => exact HI.out
  case round =>
    obtain ⟨l', i, rfl, hi, hil, hln, hR, hg, hP, hK⟩ := hrel
    clear HI
    have OR := order_any l' B g cap i hi wr (by rw [hln]; exact hR)
    unfold Ordered at OR
    rw [hln] at OR
    have HS : Hid (Snk lo lo1 up (ord l' i) i ∧ (2 * i < n → ble up (sd (ord l' i) up i) (sd (ord l' i) (!up) i)) ∧ (ord l' i).Perm l ∧ (ord l' i).length = n) := by
      refine ⟨?_, fun h => (hK.order (by omega)).2, (ord_perm _ _).trans hP, by rw [ord_length, hln]⟩
      rcases hil with h | h
      · exact (hK.order (by omega)).1
      · rw [ord_empty (by omega)]; exact hK
    have HG := Lib.hid hg
    clear hln hR hg hP hK
    generalize ord l' i = l1 at *
    go_wp2_with fail
    with_reducible refine OR.mono ?_
    rintro e w1 ⟨rfl, hR1, hg1⟩
    have HR1 := Lib.hid hR1
    have HG1 := Lib.hid (grown_trans HG.out hg1)
    have BS := HBS.out l1 HS.out.2.2.2 i hi w1 hR1
    rw [HS.out.2.2.2, EHH.out] at BS
    clear hR1 hg1 OR HG
    go_wp2_with fail
    with_reducible refine BS.mono ?_
    rintro e w2 ⟨b, hB, hbl, rfl, m2⟩
    have HB := Lib.hid hB
    have HR2 := Lib.hid (rowNext HR1.out m2)
    have HG2 := Lib.hid (grown_trans HG1.out (grown_below m2))
    rw [HS.out.2.2.2] at hbl
    clear hB m2 BS HR1 HG1
    by_cases hbi : b = i
    · subst hbi
      have E : Hid (Sunk B g n cap lo lo1 up l w (.returned (.tuple #[])) w2) := ⟨l1, rfl, HR2.out, HG2.out, HS.out.2.2.1, HS.out.1.stood HB.out (by rw [HS.out.2.2.2]; exact HS.out.2.1)⟩
      clear HR2 HG2 HS HB hbl
      go_wp2
      refine bodyPost_ret (results_none rfl _ _ _) rfl ?_
      exact E.out
    · have hbi' : ((b : Int) == (i : Int)) = false := by simp; omega
      have hb2 := hbl.resolve_left hbi
      have hi2 : 2 * i < n := by omega
      have EX := HEX.out l1 HS.out.2.2.2 i b hi2 hb2 w2 HR2.out
      rw [HS.out.2.2.2, EHH.out] at EX
      have HST := HS.out.1.step (HS.out.2.1 hi2) HB.out hbi
      have hib : i < b := HST.2.1
      have E : Hid (∀ w3, Row B g n cap (exc l1 up i b) w3 → w2.grownBy w3 (some g) → Sinks B g n cap lo lo1 up l w (.int .i64 (b : Int)) w3) := fun w3 r3 g3 =>
        ⟨_, b, rfl, by omega, .inl hb2, by rw [exc_length]; exact HS.out.2.2.2, r3, grown_trans HG2.out g3, (exc_perm l1 up (by rw [HS.out.2.2.2]; exact hi2) (by rw [HS.out.2.2.2]; exact hb2)).trans HS.out.2.2.1, HST.1⟩
      clear hbi HS HB HR2 HG2 HST hbl
      go_wp2_with fail
      with_reducible refine EX.mono ?_
      rintro e w3 ⟨rfl, r3, g3⟩
      have EE := Lib.hid (E.out w3 r3 g3)
      clear r3 g3 EX E
      go_wp2
      go_roundw
      case rel => exact EE.out
      case measure => simp [intOf]; omega

/-- What rise leaves. -/
def Risen (B g n cap k : Nat) (up : Bool) (l : List En) (w : World) (e : Ending) (w' : World) : Prop :=
  ∃ l', e = .returned (.tuple #[]) ∧ Row B g n cap l' w' ∧ w.grownBy w' (some g) ∧ l'.Perm l ∧ (Rse up l k → Right l') ∧ ((k = 0 ∨ ¬ blt up (sd l up k) (sd l up ((k - 1) / 2))) → l' = l)
/-- The state of its loop. -/
def Rises (B g n cap k : Nat) (up : Bool) (l : List En) (w : World) (vi : Value) (wr : World) : Prop :=
  ∃ (l' : List En) (i : Nat), vi = .int .i64 (i : Int) ∧ 2 * i < n ∧ l'.length = n ∧ Row B g n cap l' wr ∧ w.grownBy wr (some g) ∧ l'.Perm l ∧ (Rse up l k → Rse up l' i) ∧ ((k = 0 ∨ ¬ blt up (sd l up k) (sd l up ((k - 1) / 2))) → l' = l ∧ i = k)

set_option maxHeartbeats 4000000 in
theorem rise_any (l : List En) (hn : l.length ≤ 1000) (B g cap k : Nat) (up : Bool) (hkl : 2 * k < l.length) (w : World) (h : Row B g l.length cap l w) :
    Calls Try.prog 110 #[.slice (some ⟨g, 0, none⟩) l.length cap, .int .i64 (k : Int), .bool (!up)] w (Risen B g l.length cap k up l w) := by
  obtain ⟨n, en⟩ : ∃ n, l.length = n := ⟨_, rfl⟩
  have HI : Hid (Rises B g n cap k up l w (.int .i64 (k : Int)) w) := ⟨l, k, rfl, by omega, en, by rw [← en]; exact h, grown_refl _ _, List.Perm.refl _, id, fun _ => ⟨rfl, rfl⟩⟩
  have EX := fun (l' : List En) (hl : l'.length = n) (i b : Nat) (hi : 2 * i < n) (hb : 2 * b < n) (w' : World) (hR : Row B g n cap l' w') => exchange_any l' B g cap i b up (by omega) (by omega) (by omega) w' (by rw [hl]; exact hR)
  have BT := fun (l' : List En) (hl : l'.length = n) (i b : Nat) (hi : 2 * i < n) (hb : 2 * b < n) (w' : World) (hR : Row B g n cap l' w') => beats_any l' g cap i b up w' (own_list hR) (by omega) (by omega) (by omega)
  have AB := fun (i : Nat) (h0 : 0 < i) (hi : 2 * i < n) => above_any i h0 (by omega)
  have HEX := Lib.hid EX
  have HBT := Lib.hid BT
  have HAB := Lib.hid AB
  rw [en] at hn hkl ⊢
  clear en h EX BT AB
  obtain ⟨hh, ehh⟩ : ∃ hh, (!up) = hh := ⟨_, rfl⟩
  have EHH := Lib.hid ehh
  rw [ehh]
  clear ehh
  go_enter Try.func110, Try.ntmps110
  go_wp2
  go_loopw [1] (fun vi wr => Rises B g n cap k up l w vi wr) (fun vi _ => (intOf vi).toNat)
  case atStart => exact HI.out
  case round =>
    obtain ⟨l', i, rfl, hi, hln, hR, hg, hP, hK, hS⟩ := hrel
    clear HI
    have HLN := Lib.hid hln
    have HR := Lib.hid hR
    have HG := Lib.hid hg
    have HP := Lib.hid hP
    have HK := Lib.hid hK
    have HS := Lib.hid hS
    clear hln hR hg hP hK hS
    by_cases h0 : i = 0
    · subst h0
      have h0' : ¬ (0 : Int) < ((0 : Nat) : Int) := by omega
      have E : Hid (Risen B g n cap k up l w (.returned (.tuple #[])) wr) := ⟨l', rfl, HR.out, HG.out, HP.out, fun h => (HK.out h).done (.inl rfl), fun h => (HS.out h).1⟩
      clear HR HG HP HK HS
      go_wp2
      go_end0
      exact E.out
    · have h0' : (0 : Int) < (i : Int) := by omega
      have AB1 := HAB.out i (by omega) hi
      have BT1 := HBT.out l' HLN.out i ((i - 1) / 2) hi (by omega) wr HR.out
      rw [HLN.out, EHH.out] at BT1
      obtain ⟨p, hp⟩ : ∃ p : Nat, p = (i - 1) / 2 := ⟨_, rfl⟩
      rw [← hp] at AB1 BT1
      have HPP := Lib.hid hp
      have hpi : p < i := by omega
      clear hp
      cases hr : bltB up (sd l' up i) (sd l' up p) with
      | false =>
        have hr' := (bltB_false _ _ _).1 hr
        have E : Hid (∀ w3, Below wr.heap.size wr w3 → Risen B g n cap k up l w (.returned (.tuple #[])) w3) := fun w3 m3 => ⟨l', rfl, rowNext HR.out m3, grown_trans HG.out (grown_below m3), HP.out, fun h => (HK.out h).done (.inr (by rw [← HPP.out]; exact hr')), fun h => (HS.out h).1⟩
        rw [hr] at BT1
        clear hr hr' HR HG HP HK HS
        go_wp2_with (go_at_call 111; (with_reducible refine (AB1 _).mono ?_); rintro e w' ⟨rfl, rfl⟩)
        with_reducible refine BT1.mono ?_
        rintro e w3 ⟨rfl, m3⟩
        have EE := Lib.hid (E.out w3 m3)
        clear m3 BT1 E
        go_wp2
        go_end0
        exact EE.out
      | true =>
        have hr' := (bltB_iff _ _ _).1 hr
        have EX1 := fun w3 (m3 : Below wr.heap.size wr w3) => HEX.out l' HLN.out i p hi (by omega) w3 (rowNext HR.out m3)
        rw [HLN.out, EHH.out] at EX1
        have HEX1 := Lib.hid EX1
        have E : Hid (∀ w3 w4, Below wr.heap.size wr w3 → Row B g n cap (exc l' up i p) w4 → w3.grownBy w4 (some g) → Rises B g n cap k up l w (.int .i64 (p : Int)) w4) := fun w3 w4 m3 r4 g4 => by
          refine ⟨_, p, rfl, by omega, by rw [exc_length]; exact HLN.out, r4, grown_trans (grown_trans HG.out (grown_below m3)) g4, (exc_perm l' up (by rw [HLN.out]; exact hi) (by rw [HLN.out]; omega)).trans HP.out, fun h => ?_, fun h => ?_⟩
          · have q := (HK.out h).step (by omega) (by rw [← HPP.out]; exact hr')
            rw [← HPP.out] at q
            rw [exc_comm l' up (by rw [HLN.out]; exact hi) (by rw [HLN.out]; omega)]
            exact q
          · obtain ⟨q1, q2⟩ := HS.out h
            subst q1 q2
            rw [HPP.out] at hr'
            exact absurd hr' (h.resolve_left h0)
        rw [hr] at BT1
        clear hr hr' HR HG HP HK HS EX1
        go_wp2_with (go_at_call 111; (with_reducible refine (AB1 _).mono ?_); rintro e w' ⟨rfl, rfl⟩)
        with_reducible refine BT1.mono ?_
        rintro e w3 ⟨rfl, m3⟩
        have EX2 := HEX1.out w3 m3
        have HE3 : Hid (∀ w4, Row B g n cap (exc l' up i p) w4 → w3.grownBy w4 (some g) → Rises B g n cap k up l w (.int .i64 (p : Int)) w4) := fun w4 r4 g4 => E.out w3 w4 m3 r4 g4
        clear m3 BT1 E HEX1
        go_wp2_with (go_at_call 111; (with_reducible refine (AB1 _).mono ?_); rintro e w' ⟨rfl, rfl⟩)
        with_reducible refine EX2.mono ?_
        rintro e w4 ⟨rfl, r4, g4⟩
        have EE := Lib.hid (HE3.out w4 r4 g4)
        clear r4 g4 EX2 HE3
        go_wp2_with (go_at_call 111; (with_reducible refine (AB1 _).mono ?_); rintro e w' ⟨rfl, rfl⟩)
        go_roundw
        case rel => exact EE.out
        case measure => simp [intOf]; omega

/-- What arrange and settle leave. -/
def Laid (B g n cap : Nat) (l : List En) (w : World) (e : Ending) (w' : World) : Prop :=
  ∃ l', e = .returned (.tuple #[]) ∧ Row B g n cap l' w' ∧ w.grownBy w' (some g) ∧ l'.Perm l ∧ Right l'
/-- The state of arrange's loop. -/
def Arranges (B g n cap : Nat) (l : List En) (w : World) (vi : Value) (wr : World) : Prop :=
  ∃ (l' : List En) (m : Nat), vi = .int .i64 ((m : Int) - 1) ∧ 2 * m ≤ n ∧ l'.length = n ∧ Row B g n cap l' wr ∧ w.grownBy wr (some g) ∧ l'.Perm l ∧ From m l'
set_option maxHeartbeats 2000000 in
theorem arrange_any (l : List En) (hn : l.length ≤ 1000) (B g cap : Nat) (w : World) (h : Row B g l.length cap l w) :
    Calls Try.prog 45 #[.slice (some ⟨g, 0, none⟩) l.length cap] w (Laid B g l.length cap l w) := by
  obtain ⟨n, en⟩ : ∃ n, l.length = n := ⟨_, rfl⟩
  have HST : Hid (Arranges B g n cap l w (.int .i64 ((n : Int) / 2 - 1)) w) := by
    refine ⟨l, n / 2, by rw [show ((n / 2 : Nat) : Int) = (n : Int) / 2 by omega], by omega, en, by rw [← en]; exact h, grown_refl _ _, List.Perm.refl _, by rw [← en]; exact from_start l⟩
  have SK := fun (up : Bool) (l' : List En) (hl : l'.length = n) (lo lo1 k : Nat) (hk : 2 * k < n) (w' : World) (hR : Row B g n cap l' w') (hs : Snk lo lo1 up l' k) => sink_any l' (by omega) B g cap lo lo1 k up (by omega) (.inl (by omega)) w' (by rw [hl]; exact hR) hs
  have HSK := Lib.hid SK
  rw [en] at hn ⊢
  clear en h SK
  go_enter Try.func45, Try.ntmps45
  go_wp2
  go_loopw [2] (fun vi wr => Arranges B g n cap l w vi wr) (fun vi _ => (intOf vi + 1).toNat)
  case atStart => exact HST.out
  case round =>
    obtain ⟨l', m, rfl, hmn, hln, hR, hg, hP, hL⟩ := hrel
    clear HST
    by_cases h0 : m = 0
    · subst h0
      have E : Hid (Laid B g n cap l w (.returned (.tuple #[])) wr) := ⟨l', rfl, hR, hg, hP, Stood.right hL⟩
      clear hln hR hg hP hL
      go_wp2
      go_end0
      exact E.out
    · obtain ⟨i, rfl⟩ : ∃ i, m = i + 1 := ⟨m - 1, by omega⟩
      rw [show (((i + 1 : Nat) : Int) - 1) = (i : Int) by omega]
      have SK1 := HSK.out true l' hln i (i + 1) i (by omega) wr hR (From.snk hL)
      rw [hln, show (!true) = false from rfl] at SK1
      have HLN := Lib.hid hln
      have HG := Lib.hid hg
      have HP := Lib.hid hP
      clear hln hR hg hP hL
      go_wp2_with fail
      with_reducible refine SK1.mono ?_
      rintro e w3 ⟨l3, rfl, r3, g3, p3, c3⟩
      have hl3 : l3.length = n := by rw [p3.length_eq]; exact HLN.out
      have SK2 := HSK.out false l3 hl3 i i i (by omega) w3 r3 c3.snk
      rw [hl3, show (!false) = true from rfl] at SK2
      have HG3 := Lib.hid (grown_trans HG.out g3)
      have HP3 := Lib.hid (p3.trans HP.out)
      have HL3 := Lib.hid hl3
      clear r3 g3 p3 c3 hl3 SK1 HG HP HLN
      go_wp2_with fail
      with_reducible refine SK2.mono ?_
      rintro e w4 ⟨l4, rfl, r4, g4, p4, c4⟩
      have EE : Hid (Arranges B g n cap l w (.int .i64 ((i : Int) - 1)) w4) := ⟨l4, i, rfl, by omega, by rw [p4.length_eq]; exact HL3.out, r4, grown_trans HG3.out g4, p4.trans HP3.out, c4⟩
      clear r4 g4 p4 c4 SK2 HG3 HP3 HL3
      go_wp2
      go_roundw
      case rel => exact EE.out
      case measure => simp [intOf]
set_option maxHeartbeats 2000000 in
theorem settle_any (l : List En) (x : En) (hn : l.length ≤ 900) (B g cap : Nat) (w : World) (h : Row B g (l.length + 1) cap (l ++ [x]) w) (hr : Right l) :
    Calls Try.prog 109 #[.slice (some ⟨g, 0, none⟩) (l.length + 1) cap] w (Laid B g (l.length + 1) cap (l ++ [x]) w) := by
  obtain ⟨m, em⟩ : ∃ m, l.length = m := ⟨_, rfl⟩
  obtain ⟨n, en⟩ : ∃ n, n = m + 1 := ⟨_, rfl⟩
  obtain ⟨k, ek⟩ : ∃ k, m / 2 = k := ⟨_, rfl⟩
  have hlen : (l ++ [x]).length = n := by simp [em, en]
  have NR := near_app hr x
  rw [em, ek] at NR
  have OR := order_any (l ++ [x]) B g cap k (by omega) w (by rw [hlen, en, ← em]; exact h)
  unfold Ordered at OR
  rw [hlen] at OR
  rw [em, ← en]
  have RS := fun (up : Bool) (l' : List En) (hl : l'.length = n) (w' : World) (hR : Row B g n cap l' w') => rise_any l' (by omega) B g cap k up (by omega) w' (by rw [hl]; exact hR)
  have HRS := Lib.hid RS
  rw [em] at hn
  have hm' : (n : Int) - 1 = (m : Int) := by omega
  have hk : (m : Int) / 2 = (k : Int) := by omega
  have HNR := Lib.hid NR
  have hlo : (ord (l ++ [x]) k).length = n := by rw [ord_length, hlen]
  have HLO := Lib.hid hlo
  have HPO := Lib.hid (ord_perm (l ++ [x]) k)
  generalize ord (l ++ [x]) k = l1 at *
  clear h hr em en ek hlen NR RS hlo
  go_enter Try.func109, Try.ntmps109
  go_wp2_with fail
  with_reducible refine OR.mono ?_
  rintro e w1 ⟨rfl, r1, g1⟩
  have R1 := HRS.out true l1 HLO.out w1 r1
  rw [HLO.out, show (!true) = false from rfl] at R1
  have HG1 := Lib.hid g1
  clear r1 g1 OR
  go_wp2_with fail
  with_reducible refine R1.mono ?_
  rintro e w2 ⟨l2, rfl, r2, g2, p2, c2, s2⟩
  have hl2 : l2.length = n := by rw [p2.length_eq]; exact HLO.out
  have R2 := HRS.out false l2 hl2 w2 r2
  rw [hl2, show (!false) = true from rfl] at R2
  have HQ : Hid (Rse false l2 k) := by
    have hlt := HNR.out.lt
    by_cases hb : k = 0 ∨ ¬ blt true (sd l1 true k) (sd l1 true ((k - 1) / 2))
    · rw [s2 hb]; exact HNR.out.high hb
    · have h0 : 0 < k := by
        rcases Nat.eq_zero_or_pos k with h | h
        · exact absurd (.inl h) hb
        · exact h
      have hb' : blt true (sd l1 true k) (sd l1 true ((k - 1) / 2)) := Classical.byContradiction fun h => hb (.inr h)
      exact (c2 (HNR.out.low h0 hb')).rse false (by rw [hl2, ← HLO.out]; exact hlt)
  have HG2 := Lib.hid (grown_trans HG1.out g2)
  have HP2 := Lib.hid (p2.trans HPO.out)
  clear r2 g2 p2 c2 s2 R1 HG1 HNR HPO
  go_wp2_with fail
  with_reducible refine R2.mono ?_
  rintro e w3 ⟨l3, rfl, r3, g3, p3, c3, s3⟩
  have E : Hid (Laid B g n cap (l ++ [x]) w (.returned (.tuple #[])) w3) := ⟨l3, rfl, r3, grown_trans HG2.out g3, p3.trans HP2.out, c3 HQ.out⟩
  clear r3 g3 p3 c3 s3 R2 HG2 HP2 HQ
  go_wp2
  go_end0
  exact E.out
end Go.Proofs.Ytiighhcilgjebaa.I
