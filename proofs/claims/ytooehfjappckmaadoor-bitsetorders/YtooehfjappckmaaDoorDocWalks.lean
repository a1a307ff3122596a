/-
  What the document's own sets do (package secateurref03): With, Has, List, Next.
-/
import Derived.Test.YtooehfjappckmaaDoorRowKit3
namespace Go.Proofs.YtooehfjappckmaaDoor
set_option maxRecDepth 100000
open Go.RowKit

theorem rhas_any (x : Option Addr) (cap n : Nat) (p : Nat → Bool) (hout : ∀ i, n ≤ i → p i = false) (i : Int) (w : World) (h : BoolsAt w x cap n p) :
    Calls Tryd.prog 21 #[.slice x n cap, .int .i64 i] w fun e w' => e = .returned (.bool (has p i)) ∧ w' = w := by
  obtain ⟨hc1, hc2⟩ := h.cap_ok
  unfold maxLen at hc2
  by_cases h0 : 0 ≤ i
  · obtain ⟨m, rfl⟩ := Int.eq_ofNat_of_zero_le h0
    have hr : has p (m : Int) = p m := by unfold has; simp
    rw [hr]
    by_cases h1 : m < n
    · obtain ⟨b, rfl, hb, hc⟩ := h.at h1
      clear hr hout h
      go_enter Tryd.func21, Tryd.ntmps21
      go_wp2
      go_ret
      exact ⟨rfl, rfl⟩
    · rw [hout m (by omega)]
      clear hr hout h
      go_enter Tryd.func21, Tryd.ntmps21
      go_wp2
      go_ret
      exact ⟨rfl, rfl⟩
  · have hr : has p i = false := by unfold has; simp [h0]
    rw [hr]
    clear hr hout h
    go_enter Tryd.func21, Tryd.ntmps21
    go_wp2
    go_ret
    exact ⟨rfl, rfl⟩

theorem rnext_any (x : Option Addr) (cap n : Nat) (p : Nat → Bool) (hn : n ≤ 4096) (i : Int) (w : World) (h : BoolsAt w x cap n p) :
    Calls Tryd.prog 22 #[.slice x n cap, .int .i64 i] w fun e w' => e = .returned (.int .i64 (nxI n p i)) ∧ w' = w := by
  obtain ⟨hc1, hc2⟩ := h.cap_ok
  unfold maxLen at hc2
  go_enter Tryd.func22, Tryd.ntmps22
  go_wp2
  go_loopw [5] (fun kk wr => ∃ k : Nat, k ≤ n ∧ kk = .int .i64 k ∧ Hid (∀ j, i.toNat ≤ j → j < k → p j = false) ∧ wr = w) (fun kk _ => n - (intOf kk).toNat)
  case atStart => exact ⟨0, by omega, rfl, fun j _ hj => by omega, rfl⟩
  case round =>
    obtain ⟨k, hk, rfl, hz, rfl⟩ := hrel
    by_cases hlt : k < n
    · obtain ⟨b, rfl, hb, hc⟩ := h.at hlt
      by_cases hi : i ≤ (k : Int)
      · by_cases hp : p k = true
        · rw [hp] at hc
          have hr : nxI n p i = (k : Int) := nx_some (by omega) hlt hp hz.out
          have HR := Lib.hid hr
          clear hr hp hz h
          go_wp2
          go_ret
          exact ⟨ret_int HR.out.symm, rfl⟩
        · have hp' : p k = false := by simpa using hp
          rw [hp'] at hc
          have hz1 : Hid (∀ j, i.toNat ≤ j → j < k + 1 → p j = false) := by
            intro j h1 h2
            by_cases e : j = k
            · rw [e]; exact hp'
            · exact hz j h1 (by omega)
          clear hp hp' hz h
          go_wp2
          go_roundw
          case rel => exact ⟨k + 1, by omega, by go_num, hz1, trivial⟩
          case measure => simp [intOf]; omega
      · have hz1 : Hid (∀ j, i.toNat ≤ j → j < k + 1 → p j = false) := by
          intro j h1 h2
          omega
        clear hz h
        go_wp2
        go_roundw
        case rel => exact ⟨k + 1, by omega, by go_num, hz1, trivial⟩
        case measure => simp [intOf]; omega
    · obtain rfl : k = n := by omega
      have HR := Lib.hid (show nxI k p i = -1 from nx_none hz.out)
      clear hz h
      go_wp2
      go_ret
      exact ⟨ret_int HR.out.symm, rfl⟩

set_option maxHeartbeats 1000000 in
theorem rlist_any (x : Option Addr) (cap n : Nat) (p : Nat → Bool) (hn : n ≤ 4096) (w : World) (h : BoolsAt w x cap n p) :
    Calls Tryd.prog 27 #[.slice x n cap] w fun e w' => (∃ y c, e = .returned (.slice y (lst p n).length c) ∧ NumsAt w' y c (lst p n)) ∧ Below w.heap.size w w' := by
  obtain ⟨i0, hi, hz0, hz1, hz2⟩ := info_parts infoI
  obtain ⟨hc1, hc2⟩ := h.cap_ok
  unfold maxLen at hc2
  have H := Lib.hid h
  clear h
  go_enter Tryd.func27, Tryd.ntmps27
  go_wp2
  go_loopw [3, 4] (fun d i wr => ∃ k : Nat, k ≤ n ∧ i = .int .i64 k ∧ wr.ownsRow w.heap.size 3 1 d (lst p k).length (nl (lst p k)) ∧ Below w.heap.size w wr) (fun _ i _ => n - (intOf i).toNat)
  case atStart => exact ⟨0, by omega, rfl, World.ownsRow_nil _ _ _ _, Below.refl _ _⟩
  case round =>
    obtain ⟨k, hk, rfl, hown, hbel⟩ := hrel
    have hsz := hbel.size
    by_cases hlt : k < n
    · obtain ⟨b, rfl, hb, hc⟩ := (H.out.below hbel).at hlt
      by_cases hp : p k = true
      · rw [hp] at hc
        have hf : lst p (k + 1) = lst p k ++ [k] := by rw [lst, hp]; rfl
        have hul : (lst p k).length ≤ 4096 := by rw [lst_len]; have := cnt_le p k; omega
        have HF := Lib.hid hf
        clear hf hp
        go_wp2_with (at_builtin; refine wpList_append_own _ rfl _ _ 22 rfl w.heap.size 3 i0 (.int .i64 0) 1 8 Tryd.underlying22 hi hz0 hz1 hz2 rfl (by decide) _ _ _ rfl (hown.alloc _) ⟨wr.heap.size, 0, none⟩ 1 1 [.int .i64 (k : Int)] rfl rfl ?c1 ?c2 ?c3 ?c4 ?c5 ?_)
        case c1 =>
          intro j v hj
          match j, hj with
          | 0, hj => simp at hj; subst hj; simp [Addr.add]
        case c2 => intro v hv; simp at hv; subst hv; rfl
        case c3 => unfold maxLen; omega
        case c4 => omega
        case c5 => simp; omega
        · intro v' w3 hown' hgrow _
          have HB3 := Lib.hid (grow_step hown hgrow hbel (by omega))
          have hO4 : w3.ownsRow w.heap.size 3 1 v' (lst p (k + 1)).length (nl (lst p (k + 1))) := by
            rw [HF.out]; simpa [nl] using hown'
          have hO3 := Lib.hid hO4
          clear hO4 hown hown' hgrow hbel hc
          go_wp2
          go_roundw
          case rel => exact ⟨k + 1, by omega, by go_num, hO3.out, HB3.out⟩
          case measure => simp [intOf]; omega
      · have hp' : p k = false := by simpa using hp
        rw [hp'] at hc
        have HF : Hid (lst p (k + 1) = lst p k) := by show _ = _; rw [lst, hp']; simp
        have HO := Lib.hid hown
        have HB := Lib.hid hbel
        clear hp hp' hown hbel
        go_wp2
        go_roundw
        case rel => exact ⟨k + 1, by omega, by go_num, by rw [HF.out]; exact HO.out, HB.out⟩
        case measure => simp [intOf]; omega
    · obtain rfl : k = n := by omega
      obtain ⟨y, c, rfl, hN⟩ := nums_of_owns hown
      have HN := Lib.hid hN
      have HB := Lib.hid hbel
      clear hown hbel hN
      go_wp2
      go_ret
      exact ⟨⟨y, c, rfl, HN.out⟩, HB.out⟩

set_option maxHeartbeats 1000000 in
theorem rwith_any (x : Option Addr) (cap n : Nat) (p : Nat → Bool) (hn : n ≤ 4096) (i : Int) (to : Bool) (w : World) (h : BoolsAt w x cap n p) :
    Calls Tryd.prog 19 #[.slice x n cap, .int .i64 i, .bool to] w fun e w' => (∃ y c, e = .returned (.slice y n c) ∧ BoolsAt w' y c n (put n p i to)) ∧ Below w.heap.size w w' := by
  obtain ⟨i0, hi, hz0, hz1, hz2⟩ := info_parts infoB
  obtain ⟨hc1, hc2⟩ := h.cap_ok
  unfold maxLen at hc2
  have H := Lib.hid h
  clear h
  go_enter Tryd.func19, Tryd.ntmps19
  go_wp2
  go_loopw [7, 8] (fun d i' wr => ∃ k : Nat, k ≤ n ∧ i' = .int .i64 k ∧ wr.ownsRow w.heap.size 4 1 d k (bl (put n p i to) k) ∧ Below w.heap.size w wr) (fun _ i' _ => n - (intOf i').toNat)
  case atStart => exact ⟨0, by omega, rfl, World.ownsRow_nil _ _ _ _, Below.refl _ _⟩
  case round =>
    obtain ⟨k, hk, rfl, hown, hbel⟩ := hrel
    have hsz := hbel.size
    by_cases hlt : k < n
    · obtain ⟨b, rfl, hb, hc⟩ := (H.out.below hbel).at hlt
      by_cases hki : (k : Int) = i
      · have HF : Hid (put n p i to k = to) := by show _ = _; unfold put; rw [if_pos ⟨hki, hlt⟩]
        have hq : ((k : Int) == i) = true := by simp [hki]
        have HK := Lib.hid hki
        clear hki
        go_wp2_with (at_builtin; refine wpList_append_own _ rfl _ _ 33 rfl w.heap.size 4 i0 (.bool false) 1 1 Tryd.underlying33 hi hz0 hz1 hz2 rfl (by decide) _ _ _ rfl (hown.alloc _) ⟨wr.heap.size, 0, none⟩ 1 1 [.bool to] rfl rfl ?c1 ?c2 ?c3 ?c4 ?c5 ?_)
        case c1 =>
          intro j v hj
          match j, hj with
          | 0, hj => simp at hj; subst hj; simp [Addr.add]
        case c2 => intro v hv; simp at hv; subst hv; rfl
        case c3 => unfold maxLen; omega
        case c4 => omega
        case c5 => simp; omega
        · intro v' w3 hown' hgrow _
          have HB3 := Lib.hid (grow_step hown hgrow hbel (by omega))
          have hO3 : Hid (w3.ownsRow w.heap.size 4 1 v' (k + 1) (bl (put n p i to) (k + 1))) := by
            rw [bl, HF.out]; exact hown'
          clear hown hown' hgrow hbel hc
          go_wp2
          go_roundw
          case rel => exact ⟨k + 1, by omega, by go_num, hO3.out, HB3.out⟩
          case measure => simp [intOf]; omega
      · have HF : Hid (put n p i to k = p k) := by show _ = _; unfold put; rw [if_neg (fun h => hki h.1)]
        have hq : ((k : Int) == i) = false := by simp [hki]
        clear hki
        generalize p k = pk at *
        go_wp2_with (at_builtin; refine wpList_append_own _ rfl _ _ 33 rfl w.heap.size 4 i0 (.bool false) 1 1 Tryd.underlying33 hi hz0 hz1 hz2 rfl (by decide) _ _ _ rfl (hown.alloc _) ⟨wr.heap.size, 0, none⟩ 1 1 [.bool pk] rfl rfl ?d1 ?d2 ?d3 ?d4 ?d5 ?_)
        case d1 =>
          intro j v hj
          match j, hj with
          | 0, hj => simp at hj; subst hj; simp [Addr.add]
        case d2 => intro v hv; simp at hv; subst hv; rfl
        case d3 => unfold maxLen; omega
        case d4 => omega
        case d5 => simp; omega
        · intro v' w3 hown' hgrow _
          have HB3 := Lib.hid (grow_step hown hgrow hbel (by omega))
          have hO3 : Hid (w3.ownsRow w.heap.size 4 1 v' (k + 1) (bl (put n p i to) (k + 1))) := by
            rw [bl, HF.out]; exact hown'
          clear hown hown' hgrow hbel hc
          go_wp2
          go_roundw
          case rel => exact ⟨k + 1, by omega, by go_num, hO3.out, HB3.out⟩
          case measure => simp [intOf]; omega
    · obtain rfl : k = n := by omega
      obtain ⟨y, c, rfl, hN⟩ := bools_of_owns hown
      have HN := Lib.hid hN
      have HB := Lib.hid hbel
      clear hown hbel hN
      go_wp2
      go_ret
      exact ⟨⟨y, c, rfl, HN.out⟩, HB.out⟩
end Go.Proofs.YtooehfjappckmaaDoor
