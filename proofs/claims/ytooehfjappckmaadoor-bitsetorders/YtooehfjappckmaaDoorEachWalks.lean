/-
  What the document's Each does (package secateurref03): Or, And, Less.
-/
import Derived.Test.YtooehfjappckmaaDoorJoinOr
import Derived.Test.YtooehfjappckmaaDoorJoinAnd
import Derived.Test.YtooehfjappckmaaDoorJoinLess
namespace Go.Proofs.YtooehfjappckmaaDoor
set_option maxRecDepth 100000
open Go.RowKit

theorem has_nat (p : Nat → Bool) (k : Nat) : has p (k : Int) = p k := by unfold has; simp

set_option maxHeartbeats 4000000 in
theorem each_or (n m : Nat) (p q : Nat → Bool) (x y : Option Addr) (c d : Nat) (hn : n ≤ 4096) (hm : ∀ i, m ≤ i → q i = false) (w : World) (h1 : BoolsAt w x c n p) (h2 : BoolsAt w y d m q) :
    Calls Tryd.prog 24 #[.slice x n c, .slice y m d, .int .i64 0] w fun e w' => (∃ s t, e = .returned (.slice s n t) ∧ BoolsAt w' s t n (orP n p q)) ∧ Below w.heap.size w w' := by
  obtain ⟨i0, hi, hz0, hz1, hz2⟩ := info_parts infoB
  obtain ⟨hc1, hc2⟩ := h1.cap_ok
  unfold maxLen at hc2
  have RHA := fun (k : Nat) W hW => rhas_any y d m q hm (k : Int) W hW
  simp only [has_nat] at RHA
  have H1 := Lib.hid h1
  have H2 := Lib.hid h2
  clear h1 h2 hm
  go_enter Tryd.func24, Tryd.ntmps24
  go_wp2
  go_loopw [7, 8] (fun d i wr => ∃ k : Nat, k ≤ n ∧ i = .int .i64 k ∧ wr.ownsRow w.heap.size 4 1 d k (bl (orP n p q) k) ∧ Below w.heap.size w wr) (fun _ i _ => n - (intOf i).toNat)
  case atStart => exact ⟨0, by omega, rfl, World.ownsRow_nil _ _ _ _, Below.refl _ _⟩
  case round =>
    obtain ⟨k, hk, rfl, hown, hbel⟩ := hrel
    have hsz := hbel.size
    by_cases hlt : k < n
    · obtain ⟨b, rfl, hb, hc⟩ := (H1.out.below hbel).at hlt
      have RH := RHA k wr (H2.out.below hbel)
      clear RHA
      cases hp : p k with
      | true =>
        rw [hp] at hc
        cases hq : q k with
        | true =>
          have HF : Hid (orP n p q k = true) := by show _ = _; unfold orP; rw [hp, hq, decide_eq_true hlt]; rfl
          rw [hq] at RH
          clear hp hq
          go_wp2_with fail
          with_reducible refine RH.mono ?_
          rintro e w2 ⟨rfl, rfl⟩
          go_wp2_with (at_builtin; refine wpList_append_own _ rfl _ _ 33 rfl w.heap.size 4 i0 (.bool false) 1 1 Tryd.underlying33 hi hz0 hz1 hz2 rfl (by decide) _ _ _ rfl (hown.alloc _) ⟨w2.heap.size, 0, none⟩ 1 1 [.bool true] rfl rfl ?ortt1 ?ortt2 ?ortt3 ?ortt4 ?ortt5 ?_)
          case ortt1 =>
            intro j v hj
            match j, hj with
            | 0, hj => simp at hj; subst hj; simp [Addr.add]
          case ortt2 => intro v hv; simp at hv; subst hv; rfl
          case ortt3 => unfold maxLen; omega
          case ortt4 => omega
          case ortt5 => simp; omega
          · intro v' w3 hown' hgrow _
            have HB3 := Lib.hid (grow_step hown hgrow hbel (by omega))
            have hO3 : Hid (w3.ownsRow w.heap.size 4 1 v' (k + 1) (bl (orP n p q) (k + 1))) := by
              rw [bl, HF.out]; exact hown'
            clear hown hown' hgrow hbel hc
            go_wp2
            go_roundw
            case rel => exact ⟨k + 1, by omega, by go_num, hO3.out, HB3.out⟩
            case measure => simp [intOf]; omega
        | false =>
          have HF : Hid (orP n p q k = true) := by show _ = _; unfold orP; rw [hp, hq, decide_eq_true hlt]; rfl
          rw [hq] at RH
          clear hp hq
          go_wp2_with fail
          with_reducible refine RH.mono ?_
          rintro e w2 ⟨rfl, rfl⟩
          go_wp2_with (at_builtin; refine wpList_append_own _ rfl _ _ 33 rfl w.heap.size 4 i0 (.bool false) 1 1 Tryd.underlying33 hi hz0 hz1 hz2 rfl (by decide) _ _ _ rfl (hown.alloc _) ⟨w2.heap.size, 0, none⟩ 1 1 [.bool true] rfl rfl ?ortf1 ?ortf2 ?ortf3 ?ortf4 ?ortf5 ?_)
          case ortf1 =>
            intro j v hj
            match j, hj with
            | 0, hj => simp at hj; subst hj; simp [Addr.add]
          case ortf2 => intro v hv; simp at hv; subst hv; rfl
          case ortf3 => unfold maxLen; omega
          case ortf4 => omega
          case ortf5 => simp; omega
          · intro v' w3 hown' hgrow _
            have HB3 := Lib.hid (grow_step hown hgrow hbel (by omega))
            have hO3 : Hid (w3.ownsRow w.heap.size 4 1 v' (k + 1) (bl (orP n p q) (k + 1))) := by
              rw [bl, HF.out]; exact hown'
            clear hown hown' hgrow hbel hc
            go_wp2
            go_roundw
            case rel => exact ⟨k + 1, by omega, by go_num, hO3.out, HB3.out⟩
            case measure => simp [intOf]; omega
      | false =>
        rw [hp] at hc
        cases hq : q k with
        | true =>
          have HF : Hid (orP n p q k = true) := by show _ = _; unfold orP; rw [hp, hq, decide_eq_true hlt]; rfl
          rw [hq] at RH
          clear hp hq
          go_wp2_with fail
          with_reducible refine RH.mono ?_
          rintro e w2 ⟨rfl, rfl⟩
          go_wp2_with (at_builtin; refine wpList_append_own _ rfl _ _ 33 rfl w.heap.size 4 i0 (.bool false) 1 1 Tryd.underlying33 hi hz0 hz1 hz2 rfl (by decide) _ _ _ rfl (hown.alloc _) ⟨w2.heap.size, 0, none⟩ 1 1 [.bool true] rfl rfl ?orft1 ?orft2 ?orft3 ?orft4 ?orft5 ?_)
          case orft1 =>
            intro j v hj
            match j, hj with
            | 0, hj => simp at hj; subst hj; simp [Addr.add]
          case orft2 => intro v hv; simp at hv; subst hv; rfl
          case orft3 => unfold maxLen; omega
          case orft4 => omega
          case orft5 => simp; omega
          · intro v' w3 hown' hgrow _
            have HB3 := Lib.hid (grow_step hown hgrow hbel (by omega))
            have hO3 : Hid (w3.ownsRow w.heap.size 4 1 v' (k + 1) (bl (orP n p q) (k + 1))) := by
              rw [bl, HF.out]; exact hown'
            clear hown hown' hgrow hbel hc
            go_wp2
            go_roundw
            case rel => exact ⟨k + 1, by omega, by go_num, hO3.out, HB3.out⟩
            case measure => simp [intOf]; omega
        | false =>
          have HF : Hid (orP n p q k = false) := by show _ = _; unfold orP; rw [hp, hq, decide_eq_true hlt]; rfl
          rw [hq] at RH
          clear hp hq
          go_wp2_with fail
          with_reducible refine RH.mono ?_
          rintro e w2 ⟨rfl, rfl⟩
          go_wp2_with (at_builtin; refine wpList_append_own _ rfl _ _ 33 rfl w.heap.size 4 i0 (.bool false) 1 1 Tryd.underlying33 hi hz0 hz1 hz2 rfl (by decide) _ _ _ rfl (hown.alloc _) ⟨w2.heap.size, 0, none⟩ 1 1 [.bool false] rfl rfl ?orff1 ?orff2 ?orff3 ?orff4 ?orff5 ?_)
          case orff1 =>
            intro j v hj
            match j, hj with
            | 0, hj => simp at hj; subst hj; simp [Addr.add]
          case orff2 => intro v hv; simp at hv; subst hv; rfl
          case orff3 => unfold maxLen; omega
          case orff4 => omega
          case orff5 => simp; omega
          · intro v' w3 hown' hgrow _
            have HB3 := Lib.hid (grow_step hown hgrow hbel (by omega))
            have hO3 : Hid (w3.ownsRow w.heap.size 4 1 v' (k + 1) (bl (orP n p q) (k + 1))) := by
              rw [bl, HF.out]; exact hown'
            clear hown hown' hgrow hbel hc
            go_wp2
            go_roundw
            case rel => exact ⟨k + 1, by omega, by go_num, hO3.out, HB3.out⟩
            case measure => simp [intOf]; omega
    · obtain rfl : k = n := by omega
      obtain ⟨s, t, rfl, hN⟩ := bools_of_owns hown
      have HN := Lib.hid hN
      have HB := Lib.hid hbel
      clear hown hbel hN RHA
      go_wp2
      go_ret
      exact ⟨⟨s, t, rfl, HN.out⟩, HB.out⟩

set_option maxHeartbeats 4000000 in
theorem each_and (n m : Nat) (p q : Nat → Bool) (x y : Option Addr) (c d : Nat) (hn : n ≤ 4096) (hm : ∀ i, m ≤ i → q i = false) (w : World) (h1 : BoolsAt w x c n p) (h2 : BoolsAt w y d m q) :
    Calls Tryd.prog 24 #[.slice x n c, .slice y m d, .int .i64 1] w fun e w' => (∃ s t, e = .returned (.slice s n t) ∧ BoolsAt w' s t n (andP n p q)) ∧ Below w.heap.size w w' := by
  obtain ⟨i0, hi, hz0, hz1, hz2⟩ := info_parts infoB
  obtain ⟨hc1, hc2⟩ := h1.cap_ok
  unfold maxLen at hc2
  have RHA := fun (k : Nat) W hW => rhas_any y d m q hm (k : Int) W hW
  simp only [has_nat] at RHA
  have H1 := Lib.hid h1
  have H2 := Lib.hid h2
  clear h1 h2 hm
  go_enter Tryd.func24, Tryd.ntmps24
  go_wp2
  go_loopw [7, 8] (fun d i wr => ∃ k : Nat, k ≤ n ∧ i = .int .i64 k ∧ wr.ownsRow w.heap.size 4 1 d k (bl (andP n p q) k) ∧ Below w.heap.size w wr) (fun _ i _ => n - (intOf i).toNat)
  case atStart => exact ⟨0, by omega, rfl, World.ownsRow_nil _ _ _ _, Below.refl _ _⟩
  case round =>
    obtain ⟨k, hk, rfl, hown, hbel⟩ := hrel
    have hsz := hbel.size
    by_cases hlt : k < n
    · obtain ⟨b, rfl, hb, hc⟩ := (H1.out.below hbel).at hlt
      have RH := RHA k wr (H2.out.below hbel)
      clear RHA
      cases hp : p k with
      | true =>
        rw [hp] at hc
        cases hq : q k with
        | true =>
          have HF : Hid (andP n p q k = true) := by show _ = _; unfold andP; rw [hp, hq, decide_eq_true hlt]; rfl
          rw [hq] at RH
          clear hp hq
          go_wp2_with fail
          with_reducible refine RH.mono ?_
          rintro e w2 ⟨rfl, rfl⟩
          go_wp2_with (at_builtin; refine wpList_append_own _ rfl _ _ 33 rfl w.heap.size 4 i0 (.bool false) 1 1 Tryd.underlying33 hi hz0 hz1 hz2 rfl (by decide) _ _ _ rfl (hown.alloc _) ⟨w2.heap.size, 0, none⟩ 1 1 [.bool true] rfl rfl ?andtt1 ?andtt2 ?andtt3 ?andtt4 ?andtt5 ?_)
          case andtt1 =>
            intro j v hj
            match j, hj with
            | 0, hj => simp at hj; subst hj; simp [Addr.add]
          case andtt2 => intro v hv; simp at hv; subst hv; rfl
          case andtt3 => unfold maxLen; omega
          case andtt4 => omega
          case andtt5 => simp; omega
          · intro v' w3 hown' hgrow _
            have HB3 := Lib.hid (grow_step hown hgrow hbel (by omega))
            have hO3 : Hid (w3.ownsRow w.heap.size 4 1 v' (k + 1) (bl (andP n p q) (k + 1))) := by
              rw [bl, HF.out]; exact hown'
            clear hown hown' hgrow hbel hc
            go_wp2
            go_roundw
            case rel => exact ⟨k + 1, by omega, by go_num, hO3.out, HB3.out⟩
            case measure => simp [intOf]; omega
        | false =>
          have HF : Hid (andP n p q k = false) := by show _ = _; unfold andP; rw [hp, hq, decide_eq_true hlt]; rfl
          rw [hq] at RH
          clear hp hq
          go_wp2_with fail
          with_reducible refine RH.mono ?_
          rintro e w2 ⟨rfl, rfl⟩
          go_wp2_with (at_builtin; refine wpList_append_own _ rfl _ _ 33 rfl w.heap.size 4 i0 (.bool false) 1 1 Tryd.underlying33 hi hz0 hz1 hz2 rfl (by decide) _ _ _ rfl (hown.alloc _) ⟨w2.heap.size, 0, none⟩ 1 1 [.bool false] rfl rfl ?andtf1 ?andtf2 ?andtf3 ?andtf4 ?andtf5 ?_)
          case andtf1 =>
            intro j v hj
            match j, hj with
            | 0, hj => simp at hj; subst hj; simp [Addr.add]
          case andtf2 => intro v hv; simp at hv; subst hv; rfl
          case andtf3 => unfold maxLen; omega
          case andtf4 => omega
          case andtf5 => simp; omega
          · intro v' w3 hown' hgrow _
            have HB3 := Lib.hid (grow_step hown hgrow hbel (by omega))
            have hO3 : Hid (w3.ownsRow w.heap.size 4 1 v' (k + 1) (bl (andP n p q) (k + 1))) := by
              rw [bl, HF.out]; exact hown'
            clear hown hown' hgrow hbel hc
            go_wp2
            go_roundw
            case rel => exact ⟨k + 1, by omega, by go_num, hO3.out, HB3.out⟩
            case measure => simp [intOf]; omega
      | false =>
        rw [hp] at hc
        cases hq : q k with
        | true =>
          have HF : Hid (andP n p q k = false) := by show _ = _; unfold andP; rw [hp, hq, decide_eq_true hlt]; rfl
          rw [hq] at RH
          clear hp hq
          go_wp2_with fail
          with_reducible refine RH.mono ?_
          rintro e w2 ⟨rfl, rfl⟩
          go_wp2_with (at_builtin; refine wpList_append_own _ rfl _ _ 33 rfl w.heap.size 4 i0 (.bool false) 1 1 Tryd.underlying33 hi hz0 hz1 hz2 rfl (by decide) _ _ _ rfl (hown.alloc _) ⟨w2.heap.size, 0, none⟩ 1 1 [.bool false] rfl rfl ?andft1 ?andft2 ?andft3 ?andft4 ?andft5 ?_)
          case andft1 =>
            intro j v hj
            match j, hj with
            | 0, hj => simp at hj; subst hj; simp [Addr.add]
          case andft2 => intro v hv; simp at hv; subst hv; rfl
          case andft3 => unfold maxLen; omega
          case andft4 => omega
          case andft5 => simp; omega
          · intro v' w3 hown' hgrow _
            have HB3 := Lib.hid (grow_step hown hgrow hbel (by omega))
            have hO3 : Hid (w3.ownsRow w.heap.size 4 1 v' (k + 1) (bl (andP n p q) (k + 1))) := by
              rw [bl, HF.out]; exact hown'
            clear hown hown' hgrow hbel hc
            go_wp2
            go_roundw
            case rel => exact ⟨k + 1, by omega, by go_num, hO3.out, HB3.out⟩
            case measure => simp [intOf]; omega
        | false =>
          have HF : Hid (andP n p q k = false) := by show _ = _; unfold andP; rw [hp, hq, decide_eq_true hlt]; rfl
          rw [hq] at RH
          clear hp hq
          go_wp2_with fail
          with_reducible refine RH.mono ?_
          rintro e w2 ⟨rfl, rfl⟩
          go_wp2_with (at_builtin; refine wpList_append_own _ rfl _ _ 33 rfl w.heap.size 4 i0 (.bool false) 1 1 Tryd.underlying33 hi hz0 hz1 hz2 rfl (by decide) _ _ _ rfl (hown.alloc _) ⟨w2.heap.size, 0, none⟩ 1 1 [.bool false] rfl rfl ?andff1 ?andff2 ?andff3 ?andff4 ?andff5 ?_)
          case andff1 =>
            intro j v hj
            match j, hj with
            | 0, hj => simp at hj; subst hj; simp [Addr.add]
          case andff2 => intro v hv; simp at hv; subst hv; rfl
          case andff3 => unfold maxLen; omega
          case andff4 => omega
          case andff5 => simp; omega
          · intro v' w3 hown' hgrow _
            have HB3 := Lib.hid (grow_step hown hgrow hbel (by omega))
            have hO3 : Hid (w3.ownsRow w.heap.size 4 1 v' (k + 1) (bl (andP n p q) (k + 1))) := by
              rw [bl, HF.out]; exact hown'
            clear hown hown' hgrow hbel hc
            go_wp2
            go_roundw
            case rel => exact ⟨k + 1, by omega, by go_num, hO3.out, HB3.out⟩
            case measure => simp [intOf]; omega
    · obtain rfl : k = n := by omega
      obtain ⟨s, t, rfl, hN⟩ := bools_of_owns hown
      have HN := Lib.hid hN
      have HB := Lib.hid hbel
      clear hown hbel hN RHA
      go_wp2
      go_ret
      exact ⟨⟨s, t, rfl, HN.out⟩, HB.out⟩

set_option maxHeartbeats 4000000 in
theorem each_less (n m : Nat) (p q : Nat → Bool) (x y : Option Addr) (c d : Nat) (hn : n ≤ 4096) (hm : ∀ i, m ≤ i → q i = false) (w : World) (h1 : BoolsAt w x c n p) (h2 : BoolsAt w y d m q) :
    Calls Tryd.prog 24 #[.slice x n c, .slice y m d, .int .i64 2] w fun e w' => (∃ s t, e = .returned (.slice s n t) ∧ BoolsAt w' s t n (lessP n p q)) ∧ Below w.heap.size w w' := by
  obtain ⟨i0, hi, hz0, hz1, hz2⟩ := info_parts infoB
  obtain ⟨hc1, hc2⟩ := h1.cap_ok
  unfold maxLen at hc2
  have RHA := fun (k : Nat) W hW => rhas_any y d m q hm (k : Int) W hW
  simp only [has_nat] at RHA
  have H1 := Lib.hid h1
  have H2 := Lib.hid h2
  clear h1 h2 hm
  go_enter Tryd.func24, Tryd.ntmps24
  go_wp2
  go_loopw [7, 8] (fun d i wr => ∃ k : Nat, k ≤ n ∧ i = .int .i64 k ∧ wr.ownsRow w.heap.size 4 1 d k (bl (lessP n p q) k) ∧ Below w.heap.size w wr) (fun _ i _ => n - (intOf i).toNat)
  case atStart => exact ⟨0, by omega, rfl, World.ownsRow_nil _ _ _ _, Below.refl _ _⟩
  case round =>
    obtain ⟨k, hk, rfl, hown, hbel⟩ := hrel
    have hsz := hbel.size
    by_cases hlt : k < n
    · obtain ⟨b, rfl, hb, hc⟩ := (H1.out.below hbel).at hlt
      have RH := RHA k wr (H2.out.below hbel)
      clear RHA
      cases hp : p k with
      | true =>
        rw [hp] at hc
        cases hq : q k with
        | true =>
          have HF : Hid (lessP n p q k = false) := by show _ = _; unfold lessP; rw [hp, hq, decide_eq_true hlt]; rfl
          rw [hq] at RH
          clear hp hq
          go_wp2_with fail
          with_reducible refine RH.mono ?_
          rintro e w2 ⟨rfl, rfl⟩
          go_wp2_with (at_builtin; refine wpList_append_own _ rfl _ _ 33 rfl w.heap.size 4 i0 (.bool false) 1 1 Tryd.underlying33 hi hz0 hz1 hz2 rfl (by decide) _ _ _ rfl (hown.alloc _) ⟨w2.heap.size, 0, none⟩ 1 1 [.bool false] rfl rfl ?lesstt1 ?lesstt2 ?lesstt3 ?lesstt4 ?lesstt5 ?_)
          case lesstt1 =>
            intro j v hj
            match j, hj with
            | 0, hj => simp at hj; subst hj; simp [Addr.add]
          case lesstt2 => intro v hv; simp at hv; subst hv; rfl
          case lesstt3 => unfold maxLen; omega
          case lesstt4 => omega
          case lesstt5 => simp; omega
          · intro v' w3 hown' hgrow _
            have HB3 := Lib.hid (grow_step hown hgrow hbel (by omega))
            have hO3 : Hid (w3.ownsRow w.heap.size 4 1 v' (k + 1) (bl (lessP n p q) (k + 1))) := by
              rw [bl, HF.out]; exact hown'
            clear hown hown' hgrow hbel hc
            go_wp2
            go_roundw
            case rel => exact ⟨k + 1, by omega, by go_num, hO3.out, HB3.out⟩
            case measure => simp [intOf]; omega
        | false =>
          have HF : Hid (lessP n p q k = true) := by show _ = _; unfold lessP; rw [hp, hq, decide_eq_true hlt]; rfl
          rw [hq] at RH
          clear hp hq
          go_wp2_with fail
          with_reducible refine RH.mono ?_
          rintro e w2 ⟨rfl, rfl⟩
          go_wp2_with (at_builtin; refine wpList_append_own _ rfl _ _ 33 rfl w.heap.size 4 i0 (.bool false) 1 1 Tryd.underlying33 hi hz0 hz1 hz2 rfl (by decide) _ _ _ rfl (hown.alloc _) ⟨w2.heap.size, 0, none⟩ 1 1 [.bool true] rfl rfl ?lesstf1 ?lesstf2 ?lesstf3 ?lesstf4 ?lesstf5 ?_)
          case lesstf1 =>
            intro j v hj
            match j, hj with
            | 0, hj => simp at hj; subst hj; simp [Addr.add]
          case lesstf2 => intro v hv; simp at hv; subst hv; rfl
          case lesstf3 => unfold maxLen; omega
          case lesstf4 => omega
          case lesstf5 => simp; omega
          · intro v' w3 hown' hgrow _
            have HB3 := Lib.hid (grow_step hown hgrow hbel (by omega))
            have hO3 : Hid (w3.ownsRow w.heap.size 4 1 v' (k + 1) (bl (lessP n p q) (k + 1))) := by
              rw [bl, HF.out]; exact hown'
            clear hown hown' hgrow hbel hc
            go_wp2
            go_roundw
            case rel => exact ⟨k + 1, by omega, by go_num, hO3.out, HB3.out⟩
            case measure => simp [intOf]; omega
      | false =>
        rw [hp] at hc
        cases hq : q k with
        | true =>
          have HF : Hid (lessP n p q k = false) := by show _ = _; unfold lessP; rw [hp, hq, decide_eq_true hlt]; rfl
          rw [hq] at RH
          clear hp hq
          go_wp2_with fail
          with_reducible refine RH.mono ?_
          rintro e w2 ⟨rfl, rfl⟩
          go_wp2_with (at_builtin; refine wpList_append_own _ rfl _ _ 33 rfl w.heap.size 4 i0 (.bool false) 1 1 Tryd.underlying33 hi hz0 hz1 hz2 rfl (by decide) _ _ _ rfl (hown.alloc _) ⟨w2.heap.size, 0, none⟩ 1 1 [.bool false] rfl rfl ?lessft1 ?lessft2 ?lessft3 ?lessft4 ?lessft5 ?_)
          case lessft1 =>
            intro j v hj
            match j, hj with
            | 0, hj => simp at hj; subst hj; simp [Addr.add]
          case lessft2 => intro v hv; simp at hv; subst hv; rfl
          case lessft3 => unfold maxLen; omega
          case lessft4 => omega
          case lessft5 => simp; omega
          · intro v' w3 hown' hgrow _
            have HB3 := Lib.hid (grow_step hown hgrow hbel (by omega))
            have hO3 : Hid (w3.ownsRow w.heap.size 4 1 v' (k + 1) (bl (lessP n p q) (k + 1))) := by
              rw [bl, HF.out]; exact hown'
            clear hown hown' hgrow hbel hc
            go_wp2
            go_roundw
            case rel => exact ⟨k + 1, by omega, by go_num, hO3.out, HB3.out⟩
            case measure => simp [intOf]; omega
        | false =>
          have HF : Hid (lessP n p q k = false) := by show _ = _; unfold lessP; rw [hp, hq, decide_eq_true hlt]; rfl
          rw [hq] at RH
          clear hp hq
          go_wp2_with fail
          with_reducible refine RH.mono ?_
          rintro e w2 ⟨rfl, rfl⟩
          go_wp2_with (at_builtin; refine wpList_append_own _ rfl _ _ 33 rfl w.heap.size 4 i0 (.bool false) 1 1 Tryd.underlying33 hi hz0 hz1 hz2 rfl (by decide) _ _ _ rfl (hown.alloc _) ⟨w2.heap.size, 0, none⟩ 1 1 [.bool false] rfl rfl ?lessff1 ?lessff2 ?lessff3 ?lessff4 ?lessff5 ?_)
          case lessff1 =>
            intro j v hj
            match j, hj with
            | 0, hj => simp at hj; subst hj; simp [Addr.add]
          case lessff2 => intro v hv; simp at hv; subst hv; rfl
          case lessff3 => unfold maxLen; omega
          case lessff4 => omega
          case lessff5 => simp; omega
          · intro v' w3 hown' hgrow _
            have HB3 := Lib.hid (grow_step hown hgrow hbel (by omega))
            have hO3 : Hid (w3.ownsRow w.heap.size 4 1 v' (k + 1) (bl (lessP n p q) (k + 1))) := by
              rw [bl, HF.out]; exact hown'
            clear hown hown' hgrow hbel hc
            go_wp2
            go_roundw
            case rel => exact ⟨k + 1, by omega, by go_num, hO3.out, HB3.out⟩
            case measure => simp [intOf]; omega
    · obtain rfl : k = n := by omega
      obtain ⟨s, t, rfl, hN⟩ := bools_of_owns hown
      have HN := Lib.hid hN
      have HB := Lib.hid hbel
      clear hown hbel hN RHA
      go_wp2
      go_ret
      exact ⟨⟨s, t, rfl, HN.out⟩, HB.out⟩
end Go.Proofs.YtooehfjappckmaaDoor
