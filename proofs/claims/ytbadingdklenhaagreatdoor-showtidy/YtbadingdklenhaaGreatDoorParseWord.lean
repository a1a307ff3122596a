/-
  What the reader's small functions do: word, number, limited, amount, another.
-/
import Derived.Test.YtbadingdklenhaaGreatDoorParseTake
namespace Go.Proofs.YtbadingdklenhaaGreatDoor
set_option maxRecDepth 100000
open Go.RowKit

theorem take_noI (r g C : Nat) (L : List Tk) (k c : Nat) (ci : Int) (hci : ci = (c : Nat)) (w : World) (h : RdS r g C L k w) (x : Tk) (hx : L[k]? = some x) (hc : x.kind ≠ c) :
    Calls Tryz.prog 67 #[.pointer (some ⟨r, 0, none⟩), .int .i64 ci] w fun e w' => Dies L k 4 e ∧ Kb r w w' := by
  subst hci; exact take_no r g C L k c w h x hx hc
theorem take_okI (r g C : Nat) (L : List Tk) (k c : Nat) (ci : Int) (hci : ci = (c : Nat)) (w : World) (h : RdS r g C L k w) (x : Tk) (hx : L[k]? = some x) (hc : x.kind = c) :
    Calls Tryz.prog 67 #[.pointer (some ⟨r, 0, none⟩), .int .i64 ci] w fun e w' => e = .returned (tkV x) ∧ (k + 1 < L.length → RdS r g C L (k + 1) w') ∧ Kb r w w' := by
  subst hci; exact take_ok r g C L k c w h x hx hc
/-- A token, whose kind is not the End. -/
theorem take_any (r g C : Nat) (L : List Tk) (hE : EndL L) (k c : Nat) (hc3 : c ≠ 3) (ci : Int) (hci : ci = (c : Nat)) (w : World) (h : RdS r g C L k w) :
    Calls Tryz.prog 67 #[.pointer (some ⟨r, 0, none⟩), .int .i64 ci] w (Tells r L w (tokR L c k) (fun x v _ => v = tkV x) (RdS r g C L)) := by
  obtain ⟨x, hx⟩ := hE.at h.lt
  by_cases hc : x.kind = c
  · have e0 : tokR L c k = .ok x (k + 1) := by unfold tokR; rw [hx]; exact if_pos hc
    rw [e0]
    refine (take_okI r g C L k c ci hci w h x hx hc).mono ?_
    rintro e w1 ⟨rfl, h1, h2⟩
    exact ⟨_, rfl, rfl, h1 (hE.goes hx (by omega)), h2⟩
  · have e0 : tokR L c k = .no k 4 := by unfold tokR; rw [hx]; exact if_neg hc
    rw [e0]
    exact take_noI r g C L k c ci hci w h x hx hc

theorem ba_ne {a b : ByteArray} (h : ¬ a = b) : (a.toList == b.toList) = false := by
  rw [ByteArray.toList_eq, ByteArray.toList_eq]
  exact beq_eq_false_iff_ne.2 fun e => h (ByteArray.ext (Array.toList_inj.1 e))
theorem ba_eq {l : List UInt8} {t : ByteArray} : ((⟨l.toArray⟩ : ByteArray) = t) ↔ l = t.data.toList := by
  constructor
  · rintro rfl; simp
  · rintro rfl; simp
set_option maxHeartbeats 1000000 in
theorem word_any (r g C : Nat) (L : List Tk) (hE : EndL L) (k : Nat) (t : ByteArray) (u : List UInt8) (hu : t.data.toList = u) (w : World) (h : RdS r g C L k w) :
    Calls Tryz.prog 93 #[.pointer (some ⟨r, 0, none⟩), .string t] w (Tells r L w (wordR L u k) (fun _ v _ => v = .tuple #[]) (RdS r g C L)) := by
  obtain ⟨x, hx⟩ := hE.at h.lt
  by_cases hc : x.kind = 0
  · have TK := take_okI r g C L k 0 0 rfl w h x hx hc
    have hg := hE.goes hx (by omega)
    unfold tkV at TK
    by_cases ht : x.text = u
    · have e0 : wordR L u k = .ok () (k + 1) := by unfold wordR isW; rw [hx]; simp [hc, ht]
      have hS : (⟨x.text.toArray⟩ : ByteArray) = t := ba_eq.2 (ht.trans hu.symm)
      rw [e0, tells_ok]
      rw [hS] at TK
      clear e0 hu ht hS
      go_enter Tryz.func93, Tryz.ntmps93
      go_wp2_with fail
      with_reducible refine TK.mono ?_
      rintro e w1 ⟨rfl, h1, kb⟩
      have h2 := Lib.hid (h1 hg)
      have kb' := Lib.hid kb
      clear h1 kb h
      go_wp2
      go_end0
      exact ⟨_, rfl, rfl, h2.out.next (new_below _ _), kb'.out.next (new_below _ _)⟩
    · have e0 : wordR L u k = .no k 4 := by unfold wordR isW; rw [hx]; simp [ht]
      have hS : ¬ (⟨x.text.toArray⟩ : ByteArray) = t := fun e => ht ((ba_eq.1 e).trans hu)
      have hF := fltV_at hx 4
      rw [e0, tells_no]
      unfold Dies
      rw [hF]
      generalize (⟨x.text.toArray⟩ : ByteArray) = T at TK hS
      have hQ := ba_ne hS
      clear e0 hu ht hF hx
      go_enter Tryz.func93, Tryz.ntmps93
      go_wp2_with fail
      with_reducible refine TK.mono ?_
      rintro e w1 ⟨rfl, h1, kb⟩
      have kb' := Lib.hid kb
      clear h1 kb h
      go_wp2
      exact ⟨rfl, rfl, kb'.out.next (new_below _ _)⟩
  · have e0 : wordR L u k = .no k 4 := by unfold wordR isW; rw [hx]; simp [hc]
    have TK := take_noI r g C L k 0 0 rfl w h x hx hc
    rw [e0, tells_no]
    unfold Dies at *
    go_enter Tryz.func93, Tryz.ntmps93
    go_wp2_with fail
    with_reducible refine TK.mono ?_
    rintro e w1 ⟨rfl, kb⟩
    go_wp2
    exact ⟨rfl, rfl, kb⟩

set_option maxHeartbeats 1000000 in
theorem number_any (r g C : Nat) (L : List Tk) (hE : EndL L) (k : Nat) (lo hi : Int) (en : Nat) (ei : Int) (hei : ei = (en : Nat)) (w : World) (h : RdS r g C L k w) :
    Calls Tryz.prog 111 #[.pointer (some ⟨r, 0, none⟩), .int .i64 lo, .int .i64 hi, .int .i64 ei] w (Tells r L w (numR L lo hi en k) (fun n v _ => ∃ x, L[k]? = some x ∧ x.n = n ∧ v = tkV x) (RdS r g C L)) := by
  subst hei
  obtain ⟨x, hx⟩ := hE.at h.lt
  by_cases hc : x.kind = 1
  · have TK := fun W hW => take_okI r g C L k 1 1 rfl W hW x hx hc
    have hg := hE.goes hx (by omega)
    by_cases ht : lo ≤ x.n ∧ x.n ≤ hi
    · have e0 : numR L lo hi en k = .ok x.n (k + 1) := by unfold numR; rw [hx]; simp only; rw [if_pos hc, if_pos ht]
      rw [e0, tells_ok]
      obtain ⟨ht1, ht2⟩ := ht
      have q1 : ¬ x.n < lo := by omega
      have q2 : ¬ hi < x.n := by omega
      have HX := Lib.hid hx
      clear e0 hc hx ht1 ht2
      unfold tkV at TK
      go_enter Tryz.func111, Tryz.ntmps111
      go_wp2_with fail
      with_reducible refine (TK _ (h.next (new_below _ _))).mono ?_
      rintro e w1 ⟨rfl, h1, kb⟩
      have hrs := h.size
      have hT := (tbox_new w (.int .i64 0) (.string ⟨#[]⟩) (.int .i64 0) (.int .i64 0) (.int .i64 0) 122).kb kb (by omega)
      have HT := Lib.hid ((hT.set5 (.int .i64 (x.kind : Nat)) (.string ⟨x.text.toArray⟩) (.int .i64 x.n) (.int .i64 (x.line : Nat)) (.int .i64 (x.col : Nat))).next (new_below _ (.cells #[.int .i64 (x.kind : Nat), .string ⟨x.text.toArray⟩, .int .i64 x.n, .int .i64 (x.line : Nat), .int .i64 (x.col : Nat)] 122)))
      obtain ⟨c0, c1, c2, c3, c4, f0, f1, f2, f3, f4, hz⟩ := hT
      have h2 := Lib.hid (h1 hg)
      have kb' := Lib.hid ((Kb.of (r := r) (new_below w _)).trans kb)
      have hgz := h.toks.1
      clear h1 kb
      go_wp2
      obtain ⟨d0, d1, d2, d3, d4, _, _, _, _, _, _⟩ := HT.out
      refine bodyPost_ret (v := tkV x) (by simp [results, Tryz.results111, go_sem, tkV, d0, d1, d2, d3, d4]) rfl ⟨_, rfl, ⟨x, HX.out, rfl, rfl⟩, ?_, ?_⟩
      · exact (h2.out.set5 (by omega) (by omega) _ _ _ _ _).next (new_below _ _)
      · exact (kb'.out.set5 (Nat.le_refl _) _ _ _ _ _).next (new_below _ _)
    · have e0 : numR L lo hi en k = .no k en := by unfold numR; rw [hx]; simp only; rw [if_pos hc, if_neg ht]
      have hF := fltV_at hx en
      rw [e0, tells_no]
      unfold Dies
      rw [hF]
      unfold tkV at TK
      have hk1 : x.n < lo ∨ hi < x.n := by omega
      have K1 := fun W (kb : Kb r (w.alloc (.cells #[.int .i64 0, .string ⟨#[]⟩, .int .i64 0, .int .i64 0, .int .i64 0] 122)) W) => (Kb.of (r := r) (new_below w _)).trans kb
      clear hF e0 ht hc hx
      rcases hk1 with q1 | q1
      · go_enter Tryz.func111, Tryz.ntmps111
        go_wp2_with fail
        with_reducible refine (TK _ (h.next (new_below _ _))).mono ?_
        rintro e w1 ⟨rfl, h1, kb⟩
        have kb' := Lib.hid (K1 _ kb)
        clear h1 kb h K1
        go_wp2
        exact ⟨rfl, rfl, kb'.out.next (new_below _ _)⟩
      · by_cases q2 : x.n < lo
        · go_enter Tryz.func111, Tryz.ntmps111
          go_wp2_with fail
          with_reducible refine (TK _ (h.next (new_below _ _))).mono ?_
          rintro e w1 ⟨rfl, h1, kb⟩
          have kb' := Lib.hid (K1 _ kb)
          clear h1 kb h K1
          go_wp2
          exact ⟨rfl, rfl, kb'.out.next (new_below _ _)⟩
        · go_enter Tryz.func111, Tryz.ntmps111
          go_wp2_with fail
          with_reducible refine (TK _ (h.next (new_below _ _))).mono ?_
          rintro e w1 ⟨rfl, h1, kb⟩
          have kb' := Lib.hid (K1 _ kb)
          clear h1 kb h K1
          go_wp2
          exact ⟨rfl, rfl, kb'.out.next (new_below _ _)⟩
  · have e0 : numR L lo hi en k = .no k 4 := by unfold numR; rw [hx]; simp [hc]
    have TK := fun W hW => take_noI r g C L k 1 1 rfl W hW x hx hc
    rw [e0, tells_no]
    unfold Dies at *
    go_enter Tryz.func111, Tryz.ntmps111
    go_wp2_with fail
    with_reducible refine (TK _ (h.next (new_below _ _))).mono ?_
    rintro e w1 ⟨rfl, kb⟩
    go_wp2
    exact ⟨rfl, rfl, (Kb.of (new_below w _)).trans kb⟩
end Go.Proofs.YtbadingdklenhaaGreatDoor
