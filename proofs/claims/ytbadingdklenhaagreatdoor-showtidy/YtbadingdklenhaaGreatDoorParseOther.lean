/-
  What the reader's small functions do: limited, amount, another.
-/
import Derived.Test.YtbadingdklenhaaGreatDoorParseWord
namespace Go.Proofs.YtbadingdklenhaaGreatDoor
set_option maxRecDepth 100000
open Go.RowKit

/-- A token's number. -/
theorem fld_n (a b c d : Value) (n : Int) (W : World) : (Instr.field 122 (.agg #[a, b, .int .i64 n, c, d]) 2).run Tryz.prog W = .ok (.int .i64 n) W := by kernel_rfl
set_option maxHeartbeats 1000000 in
theorem limited_any (r g C : Nat) (L : List Tk) (hE : EndL L) (k : Nat) (lo hi : Int) (w : World) (h : RdS r g C L k w) :
    Calls Tryz.prog 96 #[.pointer (some ⟨r, 0, none⟩), .int .i64 lo, .int .i64 hi] w (Tells r L w (numR L lo hi 22 k) (fun n v _ => v = .int .i64 n) (RdS r g C L)) := by
  have NB := number_any r g C L hE k lo hi 22 22 rfl w h
  generalize numR L lo hi 22 k = R at *
  cases R with
  | ok n k' =>
    rw [tells_ok] at *
    go_enter Tryz.func96, Tryz.ntmps96
    go_wp2_with fail
    with_reducible refine NB.mono ?_
    rintro e w1 ⟨v, rfl, ⟨x, hx, rfl, rfl⟩, h1, kb⟩
    unfold tkV
    have hf := fun a b c d n W => fld_n a b c d n W
    clear hx
    go_wp2
    go_ret
    exact ⟨_, rfl, rfl, h1, kb⟩
  | no j er =>
    rw [tells_no] at *
    unfold Dies at *
    go_enter Tryz.func96, Tryz.ntmps96
    go_wp2_with fail
    with_reducible refine NB.mono ?_
    rintro e w1 ⟨rfl, kb⟩
    go_wp2
    exact ⟨rfl, rfl, kb⟩
set_option maxHeartbeats 1000000 in
theorem amount_any (r g C : Nat) (L : List Tk) (hE : EndL L) (k : Nat) (w : World) (h : RdS r g C L k w) :
    Calls Tryz.prog 94 #[.pointer (some ⟨r, 0, none⟩)] w (Tells r L w (numR L 0 2147483648 22 k) (fun n v _ => v = .int .i64 n) (RdS r g C L)) := by
  have NB := limited_any r g C L hE k 0 2147483648 w h
  generalize numR L 0 2147483648 22 k = R at *
  cases R with
  | ok n k' =>
    rw [tells_ok] at *
    go_enter Tryz.func94, Tryz.ntmps94
    go_wp2_with fail
    with_reducible refine NB.mono ?_
    rintro e w1 ⟨v, rfl, rfl, h1, kb⟩
    go_wp2
    go_ret
    exact ⟨_, rfl, rfl, h1, kb⟩
  | no j er =>
    rw [tells_no] at *
    unfold Dies at *
    go_enter Tryz.func94, Tryz.ntmps94
    go_wp2_with fail
    with_reducible refine NB.mono ?_
    rintro e w1 ⟨rfl, kb⟩
    go_wp2
    exact ⟨rfl, rfl, kb⟩

/-- Is one more there? Then it is taken; not if there are as many as may be. -/
def moreR (L : List Tk) (t : List UInt8) (n k : Nat) : Rd Bool := if isW L t k = true then (if n = 4096 then .no k 22 else .ok true (k + 1)) else .ok false k
set_option maxHeartbeats 2000000 in
theorem another_any (r g C : Nat) (L : List Tk) (hE : EndL L) (k n : Nat) (t : ByteArray) (u : List UInt8) (hu : t.data.toList = u) (w : World) (h : RdS r g C L k w) :
    Calls Tryz.prog 95 #[.pointer (some ⟨r, 0, none⟩), .string t, .int .i64 (n : Nat)] w (Tells r L w (moreR L u n k) (fun b v _ => v = .bool b) (RdS r g C L)) := by
  obtain ⟨x, hx⟩ := hE.at h.lt
  obtain ⟨t0, t1, t2, t3, t4⟩ := h.toks.get hx
  have cell := h.cell
  have hlt := h.lt
  have hle := h.le
  have hmx := h.mx
  unfold maxLen at hmx
  have hgs := h.toks.1
  have hrs := h.size
  obtain ⟨n1, hn1⟩ : ∃ n, L.length - k = n + 1 := ⟨L.length - k - 1, by omega⟩
  obtain ⟨m1, hm1⟩ : ∃ m, C - k = m + 1 := ⟨C - k - 1, by omega⟩
  rw [hn1, hm1] at cell
  clear hn1 hm1 hle
  have fin : ∀ W, Below w.heap.size w W → RdS r g C L k W ∧ Kb r w W := fun W hb => ⟨h.next hb, Kb.of hb⟩
  have HF := Lib.hid fin
  by_cases hc : x.kind = 0
  · have hg := hE.goes hx (by omega)
    by_cases ht : x.text = u
    · have hS : (⟨x.text.toArray⟩ : ByteArray) = t := ba_eq.2 (ht.trans hu.symm)
      rw [hS] at t1
      have hw : isW L u k = true := by unfold isW; rw [hx]; simp [hc, ht]
      by_cases hn : n = 4096
      · have e0 : moreR L u n k = .no k 22 := by unfold moreR; rw [if_pos hw, if_pos hn]
        have hFl := fltV_at hx 22
        rw [e0, tells_no]
        unfold Dies
        rw [hFl]
        rw [hc] at t0
        subst hn
        clear e0 hw hS ht hc hFl fin hx hu
        go_enter Tryz.func95, Tryz.ntmps95
        go_wp2
        exact ⟨rfl, rfl, (HF.out _ (new_below _ _)).2⟩
      · have e0 : moreR L u n k = .ok true (k + 1) := by unfold moreR; rw [if_pos hw, if_neg hn]
        have TK := fun W hW => take_okI r g C L k 0 0 rfl W hW x hx hc
        rw [e0, tells_ok]
        rw [hc] at t0
        have hn2 : ¬ (n : Int) = 4096 := by omega
        clear e0 hw hS ht hc fin hx hu hn
        go_enter Tryz.func95, Tryz.ntmps95
        go_wp2_with fail
        with_reducible refine (TK _ (HF.out _ (new_below _ _)).1).mono ?_
        rintro e w1 ⟨rfl, h1, kb⟩
        have h2 := Lib.hid (h1 hg)
        have kb' := Lib.hid ((Kb.of (r := r) (new_below w _)).trans kb)
        clear h1 kb
        go_wp2
        go_ret
        exact ⟨_, rfl, rfl, h2.out, kb'.out⟩
    · have hS : ¬ (⟨x.text.toArray⟩ : ByteArray) = t := fun e => ht ((ba_eq.1 e).trans hu)
      have e0 : moreR L u n k = .ok false k := by unfold moreR isW; rw [hx]; simp [ht]
      rw [e0, tells_ok]
      rw [hc] at t0
      generalize (⟨x.text.toArray⟩ : ByteArray) = T at t1 hS
      have hQ := ba_ne hS
      clear e0 ht hc fin hx hu hS
      go_enter Tryz.func95, Tryz.ntmps95
      go_wp2
      go_ret
      exact ⟨_, rfl, rfl, HF.out _ (new_below _ _)⟩
  · have e0 : moreR L u n k = .ok false k := by unfold moreR isW; rw [hx]; simp [hc]
    rw [e0, tells_ok]
    have hc2 : ¬ (x.kind : Int) = 0 := by omega
    clear e0 hc fin hx hu
    go_enter Tryz.func95, Tryz.ntmps95
    go_wp2
    go_ret
    exact ⟨_, rfl, rfl, HF.out _ (new_below _ _)⟩
end Go.Proofs.YtbadingdklenhaaGreatDoor
