/-
  What the reader's knapsack does.
-/
import Derived.Test.YtbadingdklenhaaGreatDoorParseRow
import Derived.Test.YtbadingdklenhaaGreatDoorParseChain
import Derived.Deep.AppendLies
namespace Go.Proofs.YtbadingdklenhaaGreatDoor
set_option maxRecDepth 100000
open Go.RowKit

theorem infoIt : (Tryz.prog.info? 70).map (fun i => (i.zero, i.size, i.bytes)) = some (some (.agg #[.int .i64 0, .int .i64 0]), 2, 16) := by kernel_rfl
theorem two_oneP (a b : Int) : ∀ v ∈ [Value.int .i64 a, Value.int .i64 b], v.oneCell' = true := by
  intro v hv
  simp at hv
  rcases hv with rfl | rfl <;> rfl
theorem itemsG_more {L : List Tk} (h : EndL L) (acc : List (Int × Int)) {k : Nat} (hk : k < L.length) : itemsG L acc k = (moreR L itemW acc.length k).nx fun b k1 => if b = true then
      ((numR L 0 2147483648 22 k1).nx fun v k2 => (numR L 0 2147483648 22 k2).nx fun u k3 => itemsG L (acc ++ [(v, u)]) k3) else .ok acc k1 := by
  rw [itemsG_eq h acc hk]
  unfold moreR
  split
  · split
    · rfl
    · rfl
  · rfl
theorem ins_items {w : World} {B M : Nat} {c : Int} {v : Value} {its : List (Int × Int)} {t : TypeId} (h : w.ownsRow B t 2 v its.length (fl2 its)) (hM : M ≤ B) : Ins (fun b => M ≤ b) (fun b => M ≤ b) w (inV ⟨0, c, its, [], 0, []⟩ v (.slice none 0 0) (.slice none 0 0)) ⟨0, c, its, [], 0, []⟩ := by
  have hl := fun q hq => (h.lt q hq).1
  refine ⟨⟨v, .slice none 0 0, .slice none 0 0, [], [], rfl, Lies.imp (lies_of_own h) (fun q hq => Nat.le_trans hM (hl q hq)), ⟨rfl, Lies.nil _ _ _, fun i r u a => by simp at a⟩, ⟨rfl, Lies.nil _ _ _, fun i r u a => by simp at a⟩⟩⟩
/-- What stands while items are read: the result's variable, the instance so far, its items. -/
structure KnAt (r g C : Nat) (L : List Tk) (k2 : Nat) (cap : Int) (w : World) (ib : Nat) (va : Value) (its : List (Int × Int)) (k : Nat) (wr : World) : Prop where
  mk ::
  res : IBlk w.heap.size 33 (.int .i64 0) (.int .i64 0) (.slice none 0 0) (.slice none 0 0) (.int .i64 0) (.slice none 0 0) wr
  box : IBlk ib 33 (.int .i64 0) (.int .i64 cap) va (.slice none 0 0) (.int .i64 0) (.slice none 0 0) wr
  own : wr.ownsRow (ib + 1) 70 2 va its.length (fl2 its)
  rd : RdS r g C L k wr
  kb : Kb r w wr
  q : itemsG L its k = itemsG L [] k2
  len : its.length ≤ 4096
  ib0 : w.heap.size < ib
/-- The same, where an item is being read. -/
structure Kn0 (r g C : Nat) (L : List Tk) (k2 : Nat) (cap : Int) (w : World) (ib : Nat) (va : Value) (its : List (Int × Int)) (k : Nat) (wr : World) : Prop where
  mk ::
  res : IBlk w.heap.size 33 (.int .i64 0) (.int .i64 0) (.slice none 0 0) (.slice none 0 0) (.int .i64 0) (.slice none 0 0) wr
  box : IBlk ib 33 (.int .i64 0) (.int .i64 cap) va (.slice none 0 0) (.int .i64 0) (.slice none 0 0) wr
  own : wr.ownsRow (ib + 1) 70 2 va its.length (fl2 its)
  rd : RdS r g C L k wr
  kb : Kb r w wr
  ib0 : w.heap.size < ib
theorem Kn0.next {r g C : Nat} {L : List Tk} {k2 : Nat} {cap : Int} {w : World} {ib : Nat} {va : Value} {its : List (Int × Int)} {k : Nat} {wr w' : World} (h : Kn0 r g C L k2 cap w ib va its k wr) (nb : Below wr.heap.size wr w') : Kn0 r g C L k2 cap w ib va its k w' :=
  ⟨h.res.next nb, h.box.next nb, own_next h.own nb, h.rd.next nb, h.kb.next nb, h.ib0⟩
/-- Behind the call. -/
def Kn1 (N : Rd Int) (r g C : Nat) (L : List Tk) (k2 : Nat) (cap : Int) (w : World) (ib : Nat) (va : Value) (its : List (Int × Int)) (wr : World) : Prop := N.isOk ∧ Kn0 r g C L k2 cap w ib va its (rdK N) wr
/-- The literal's row. -/
def KnLit (N : Rd Int) (r g C : Nat) (L : List Tk) (k2 : Nat) (cap : Int) (w : World) (ib : Nat) (va : Value) (its : List (Int × Int)) (v : Int) (tv : Value) (wr : World) : Prop :=
  ∃ b, tv = .slice (some ⟨b, 0, none⟩) 1 1 ∧ wr.heap[b]? = some (.cells #[.int .i64 v, .int .i64 (rdV1 N)] 70 (0, 0)) ∧ Kn1 N r g C L k2 cap w ib va its wr
/-- The longer list. -/
def KnApp (N : Rd Int) (r g C : Nat) (L : List Tk) (cap : Int) (w : World) (ib : Nat) (va : Value) (its : List (Int × Int)) (v : Int) (tv : Value) (wr : World) : Prop :=
  ∃ b c', N.isOk ∧ tv = .slice (some ⟨b, 0, none⟩) (its.length + 1) c' ∧ wr.ownsRow (ib + 1) 70 2 tv (its.length + 1) (fl2 (its ++ [(v, rdV1 N)])) ∧
    IBlk w.heap.size 33 (.int .i64 0) (.int .i64 0) (.slice none 0 0) (.slice none 0 0) (.int .i64 0) (.slice none 0 0) wr ∧ IBlk ib 33 (.int .i64 0) (.int .i64 cap) va (.slice none 0 0) (.int .i64 0) (.slice none 0 0) wr ∧ RdS r g C L (rdK N) wr ∧ Kb r w wr ∧ w.heap.size < ib
section
variable {N : Rd Int} {r g C : Nat} {L : List Tk} {k2 : Nat} {cap : Int} {w : World} {ib : Nat} {va : Value} {its : List (Int × Int)} {v : Int} {wr w' : World} {k : Nat}
theorem Kn0.call (h : Kn0 r g C L k2 cap w ib va its k wr) (hr0 : r < w.heap.size) {u : Int} {k4 : Nat} (hN : N = .ok u k4) (h1 : RdS r g C L k4 w') (kb : Kb r wr w') : Kn1 N r g C L k2 cap w ib va its w' := by
  have := h.ib0
  subst hN
  exact ⟨⟨u, k4, rfl⟩, h.res.kb kb (by omega), h.box.kb kb (by omega), kb.own (by omega) h.own, h1, h.kb.trans kb, h.ib0⟩
theorem Kn1.lit (h : Kn1 N r g C L k2 cap w ib va its wr) : KnLit N r g C L k2 cap w ib va its v (.slice (some ⟨wr.heap.size, 0, none⟩) 1 1) (wr.alloc (.cells #[.int .i64 v, .int .i64 (rdV1 N)] 70)) :=
  ⟨wr.heap.size, rfl, heap_alloc_new _ _, h.1, h.2.next (new_below _ _)⟩
theorem Kn1.app (h : Kn1 N r g C L k2 cap w ib va its wr) (hr0 : r < w.heap.size) (hg0 : g < w.heap.size) {b c' : Nat}
    (ho : w'.ownsRow (ib + 1) 70 2 (.slice (some ⟨b, 0, none⟩) (its.length + 1) c') (its.length + 1) (fl2 its ++ [.int .i64 v, .int .i64 (rdV1 N)])) (hg : wr.grownBy w' va.ownBlock) : KnApp N r g C L cap w ib va its v (.slice (some ⟨b, 0, none⟩) (its.length + 1) c') w' := by
  obtain ⟨hN, h⟩ := h
  have hrow : ∀ q, va.ownBlock = some q → ib + 1 ≤ q := fun q hq => (h.own.lt q hq).1
  have hib := h.ib0
  refine ⟨b, c', hN, rfl, ?_, h.res.keep (hg.block _ h.res.lt (fun q => by have := hrow _ q.symm; omega)), h.box.keep (hg.block _ h.box.lt (fun q => by have := hrow _ q.symm; omega)), h.rd.grown hg (B := ib + 1) ⟨by omega, by omega⟩ hrow, h.kb.grown hg (fun q hq => by have := hrow q hq; omega), hib⟩
  rw [fl2_append]
  exact ho
theorem KnApp.ok {tv : Value} (h : KnApp N r g C L cap w ib va its v tv wr) : N.isOk := by obtain ⟨_, _, h, _⟩ := h; exact h
theorem KnApp.st {tv : Value} (h : KnApp N r g C L cap w ib va its v tv wr) (hr0 : r < w.heap.size) (hg0 : g < w.heap.size) (hlen : ¬ its.length = 4096) (hlen2 : its.length ≤ 4096)
    (hq : (N.nx fun u k3 => itemsG L (its ++ [(v, u)]) k3) = itemsG L [] k2) : KnAt r g C L k2 cap w ib tv (its ++ [(v, rdV1 N)]) (rdK N) (wr.setCell ⟨ib, 2, none⟩ tv) := by
  obtain ⟨b, c', ⟨u, k4, hN⟩, rfl, ho, hres, hbox, hrd, hkb, hib⟩ := h
  subst hN
  refine ⟨hres.other (a := ⟨ib, 2, none⟩) (show w.heap.size ≠ ib by omega) _, hbox.set2 _, ?_, hrd.other (a := ⟨ib, 2, none⟩) (show ib ≠ r by omega) (show ib ≠ g by omega) _, hkb.new (a := ⟨ib, 2, none⟩) (show w.heap.size ≤ ib by omega) _, hq, by simp; omega, hib⟩
  rw [List.length_append, List.length_singleton]
  exact ownsRow_setCell_below (a := ⟨ib, 2, none⟩) ho (show ib < ib + 1 by omega) _
end
def planKn (r ib : Nat) (A : Option Addr) (n cp : Nat) (v : Int) (N : Rd Int) : Plan := { ks := [0, 0, 0, 0, 0, 0, 2, 2, 0, 2], ds := [17, 18, 19, 20, 21, 22, 23, 24, 25, 0], vs := [.pointer (some ⟨ib, 2, none⟩), .slice A n cp, .int .i64 v, .pointer (some ⟨r, 0, none⟩), .int .i64 (rdV1 N), .agg #[.int .i64 v, .int .i64 (rdV1 N)], undef, undef, .pointer (some ⟨ib, 2, none⟩), undef], ss := [0, 0, 0, 0, 0, 0, 0, 0, 0, 0], zs := [#[], #[], #[], #[], #[], #[], #[], #[], #[], #[]], fs := [#[], #[], #[], #[], #[], #[], #[], #[], #[], #[]], ts := [0, 0, 0, 0, 0, 0, 0, 0, 0, 0] }
set_option maxHeartbeats 2000000 in
theorem knapsack_any (r g C : Nat) (L : List Tk) (hE : EndL L) (k0 : Nat) (w : World) (h : RdS r g C L k0 w) :
    Calls Tryz.prog 82 #[.pointer (some ⟨r, 0, none⟩)] w (Tells r L w (knapR L k0) (fun I v w' => Ins (fun b => w.heap.size ≤ b) (fun b => w.heap.size ≤ b) w' v I) (RdS r g C L)) := by
  have WR := fun W hW => word_any r g C L hE k0 ⟨#[99, 97, 112, 97, 99, 105, 116, 121]⟩ capW rfl W hW
  have AM := fun k W hW => amount_any r g C L hE k W hW
  obtain ⟨i0, hi0, hz01, hz02, hz03⟩ := info_parts infoIt
  have hr0 := h.size
  have hg0 := h.toks.1
  have hk : knapR L k0 = (wordR L capW k0).nx fun _ k1 => (numR L 0 2147483648 22 k1).nx fun c k2 => (itemsG L [] k2).nx fun l k3 => .ok ⟨0, c, l, [], 0, []⟩ k3 := rfl
  rw [hk]
  cases hwr : wordR L capW k0 with
  | no j er =>
    rw [hwr] at WR
    simp only [Rd.nx]
    rw [tells_no]
    simp only [tells_no] at WR
    unfold Dies at *
    go_enter Tryz.func82, Tryz.ntmps82
    go_wp2_with fail
    with_reducible refine (WR _ (h.next (new_below _ _))).mono ?_
    rintro e w1 ⟨rfl, kb⟩
    go_wp2
    exact ⟨rfl, rfl, (Kb.of (new_below w _)).trans kb⟩
  | ok a k1 =>
    rw [hwr] at WR
    simp only [tells_ok] at WR
    simp only [Rd.nx]
    have A1 := AM k1
    cases hn : numR L 0 2147483648 22 k1 with
    | no j er =>
      rw [hn] at A1
      simp only [tells_no] at A1
      rw [tells_no]
      unfold Dies at *
      go_enter Tryz.func82, Tryz.ntmps82
      go_wp2_with fail
      with_reducible refine (WR _ (h.next (new_below _ _))).mono ?_
      rintro e w1 ⟨v, rfl, rfl, h1, kb1⟩
      go_wp2_with fail
      with_reducible refine (A1 _ h1).mono ?_
      rintro e w2 ⟨rfl, kb⟩
      go_wp2
      exact ⟨rfl, rfl, ((Kb.of (new_below w _)).trans kb1).trans kb⟩
    | ok c k2 =>
      rw [hn] at A1
      simp only [tells_ok] at A1
      have hF : ∀ l j, (fun (l : List (Int × Int)) (k3 : Nat) => Rd.ok (⟨0, c, l, [], 0, []⟩ : In) k3) l j = .ok ⟨0, c, l, [], 0, []⟩ j := fun _ _ => rfl
      obtain ⟨F, hFe⟩ : ∃ F, (fun (l : List (Int × Int)) (k3 : Nat) => Rd.ok (⟨0, c, l, [], 0, []⟩ : In) k3) = F := ⟨_, rfl⟩
      change Calls _ _ _ _ (Tells r L w ((itemsG L [] k2).nx (fun (l : List (Int × Int)) (k3 : Nat) => Rd.ok (⟨0, c, l, [], 0, []⟩ : In) k3)) _ _)
      rw [hFe] at hF ⊢
      obtain ⟨R, hR⟩ : ∃ R, (itemsG L [] k2).nx F = R := ⟨_, rfl⟩
      rw [hR]
      have HF := Lib.hid hF
      have HR := Lib.hid hR
      have HI0 := Lib.hid (iblk_new w (.int .i64 0) (.int .i64 0) (.slice none 0 0) (.slice none 0 0) (.int .i64 0) (.slice none 0 0) 33)
      clear hk hwr hn hR hF hFe
      go_enter Tryz.func82, Tryz.ntmps82
      go_wp2_with fail
      with_reducible refine (WR _ (h.next (new_below _ _))).mono ?_
      rintro e w1 ⟨v, rfl, rfl, h1, kb1⟩
      go_wp2_with fail
      with_reducible refine (A1 _ h1).mono ?_
      rintro e w2 ⟨v, rfl, rfl, h2, kb2⟩
      have kb3 := ((Kb.of (r := r) (new_below w (.cells #[.int .i64 0, .int .i64 0, .slice none 0 0, .slice none 0 0, .int .i64 0, .slice none 0 0] 33))).trans kb1).trans kb2
      have hA0 : KnAt r g C L k2 c w w2.heap.size (.slice none 0 0) [] k2 (w2.alloc (.cells #[.int .i64 0, .int .i64 c, .slice none 0 0, .slice none 0 0, .int .i64 0, .slice none 0 0] 33)) :=
        ⟨((HI0.out.kb kb1 (by omega)).kb kb2 (by omega)).next (new_below _ _), iblk_new _ _ _ _ _ _ _ _, World.ownsRow_nil _ _ _ _, h2.next (new_below _ _), kb3.alloc _, rfl, by simp, by have := kb1.size; have := kb2.size; simp at *; omega⟩
      have HA0 := Lib.hid hA0
      obtain ⟨ib, hib⟩ : ∃ ib, w2.heap.size = ib := ⟨_, rfl⟩
      clear hA0 HI0 h1 h2 kb1 kb2 kb3 h
      go_wp2
      rw [hib] at HA0
      clear hib
      go_loopw [4] (fun _ wr => ∃ (va : Value) (its : List (Int × Int)) (k : Nat), Hid (KnAt r g C L k2 c w ib va its k wr)) (fun _ wr => leftN r wr)
      case atStart => exact ⟨_, [], k2, HA0⟩
      case round =>
        obtain ⟨va, its, k, hA⟩ := hrel
        have HA := Lib.hid hA.out
        clear hA HA0
        obtain ⟨A, cp, rfl⟩ := own_sliceP HA.out.own
        have hrd := HA.out.rd
        have hlt := hrd.lt
        have HL := Lib.hid hrd.left
        have AN := another_any r g C L hE k its.length ⟨#[105, 116, 101, 109]⟩ itemW rfl wr hrd
        have hq := (itemsG_more hE its hlt).symm.trans HA.out.q
        obtain ⟨b0, b1, b2, b3, b4, b5⟩ := HA.out.box.box
        have hb2 := HA.out.box.free 2
        have hibl := HA.out.box.lt
        have HRD := Lib.hid hrd
        clear hrd
        have hmr : moreR L itemW its.length k = .ok false k ∨ moreR L itemW its.length k = .no k 22 ∨ moreR L itemW its.length k = .ok true (k + 1) ∧ ¬ its.length = 4096 := by
          unfold moreR
          split
          · split
            · exact .inr (.inl rfl)
            · rename_i q; exact .inr (.inr ⟨rfl, q⟩)
          · exact .inl rfl
        rcases hmr with hm | hm | ⟨hm, hnn⟩
        · rw [hm] at AN hq
          simp only [tells_ok] at AN
          simp only [Rd.nx] at hq
          have HRR := Lib.hid (show Rd.ok (⟨0, c, its, [], 0, []⟩ : In) k = R from (HF.out its k).symm.trans ((congrArg (·.nx F) hq).trans HR.out))
          clear hq hm
          go_wp2_with fail
          with_reducible refine AN.mono ?_
          rintro e w3 ⟨v, rfl, rfl, h3, kb⟩
          have HA3 := Lib.hid (And.intro (HA.out.box.kb kb (by have := HA.out.ib0; omega)) (HA.out.res.kb kb (by omega)))
          have HK := Lib.hid (HA.out.kb.trans kb)
          have HO := Lib.hid (kb.own (by have := HA.out.ib0; omega) HA.out.own)
          have HH := Lib.hid h3
          obtain ⟨d0, d1, d2, d3, d4, d5⟩ := HA3.out.1.box
          obtain ⟨e0, e1, e2, e3, e4, e5⟩ := HA3.out.2.box
          have f := HA3.out.2.free
          have f0 := f 0
          have f1 := f 1
          have f2 := f 2
          have f3 := f 3
          have f4 := f 4
          have f5 := f 5
          have hne := Lib.hid HA.out.ib0
          clear f AN kb h3 b0 b1 b2 b3 b4 b5 hb2 HL
          go_wp2
          refine bodyPost_ret (v := inV ⟨0, c, its, [], 0, []⟩ (.slice A its.length cp) (.slice none 0 0) (.slice none 0 0)) (by simp [results, Tryz.results82, go_sem, inV, e0, e1, e2, e3, e4, e5]) rfl ?_
          rw [← HRR.out, tells_ok]
          exact ⟨_, rfl, ins_items (own_set6 HO.out (by have := hne.out; omega)) (by have := hne.out; omega), HH.out.set6 (by omega) (by omega), HK.out.set6 (Nat.le_refl _)⟩
        · rw [hm] at AN hq
          simp only [tells_no] at AN
          simp only [Rd.nx] at hq
          have HRR := Lib.hid (show Rd.no k 22 = R from (congrArg (·.nx F) hq).trans HR.out)
          have HK := Lib.hid HA.out.kb
          unfold Dies at AN
          clear hq hm
          go_wp2_with fail
          with_reducible refine AN.mono ?_
          rintro e w3 ⟨rfl, kb⟩
          go_wp2
          rw [← HRR.out]
          exact ⟨rfl, rfl, HK.out.trans kb⟩
        · rw [hm] at AN hq
          simp only [tells_ok] at AN
          simp only [Rd.nx, if_true] at hq
          clear hm
          have A2 := AM (k + 1)
          cases hn1 : numR L 0 2147483648 22 (k + 1) with
          | no j er =>
            rw [hn1] at hq A2
            simp only at hq
            simp only [tells_no] at A2
            unfold Dies at A2
            have HRR := Lib.hid (show Rd.no j er = R from (congrArg (·.nx F) hq).trans HR.out)
            clear hq hn1
            go_wp2_with fail
            with_reducible refine AN.mono ?_
            rintro e w3 ⟨v, rfl, rfl, h3, kb⟩
            have HK := Lib.hid (HA.out.kb.trans kb)
            go_wp2_with fail
            with_reducible refine (A2 _ h3).mono ?_
            rintro e w4 ⟨rfl, kb4⟩
            go_wp2
            rw [← HRR.out]
            exact ⟨rfl, rfl, HK.out.trans kb4⟩
          | ok v k3 =>
            rw [hn1] at hq A2
            simp only at hq
            simp only [tells_ok] at A2
            have hnk3 := numR_ok hn1
            clear hn1
            have A3 := AM k3
            obtain ⟨N, hN⟩ : ∃ N, numR L 0 2147483648 22 k3 = N := ⟨_, rfl⟩
            rw [hN] at hq A3
            have hN2 := fun u k4 => numR_ok (L := L) (lo := 0) (hi := 2147483648) (e := 22) (k := k3) (x := u) (k' := k4)
            rw [hN] at hN2
            have HQ := Lib.hid hq
            clear hq hN
            go_wp2_with fail
            with_reducible refine AN.mono ?_
            rintro e w3 ⟨v', rfl, rfl, h3, kb⟩
            go_wp2_with fail
            with_reducible refine (A2 _ h3).mono ?_
            rintro e w4 ⟨v', rfl, rfl, h4, kb4⟩
            have kb5 := kb.trans kb4
            have hne := HA.out.ib0
            have hl2 := HA.out.len
            have HP := Lib.hid (show Kn0 r g C L k2 c w ib (.slice A its.length cp) its k3 w4 from ⟨HA.out.res.kb kb5 (by omega), HA.out.box.kb kb5 (by omega), kb5.own (by omega) HA.out.own, h4, HA.out.kb.trans kb5, hne⟩)
            have HK3 := Lib.hid (show k3 = k + 1 + 1 by obtain ⟨_, _, _, _, _, _, q⟩ := hnk3; exact q)
            clear kb kb4 kb5 h3 h4 AN A2 b0 b1 b2 b3 b4 b5 hb2 hibl hnk3
            go_wp2
            have ok : (planKn r ib A its.length cp v N).ok = true := rfl
            refine region_inv (Inv := fun lq_ aq_ wr => ∃ (e : Nat → Bool) (t : Nat → Value), lq_ = #[e 0, e 1, e 2, e 3, e 4, e 5, e 6, e 7, e 8, e 9] ∧ aq_ = ⟨#[.pointer (some ⟨r, 0, none⟩), undef, .pointer (some ⟨w.heap.size, 0, none⟩), .pointer (some ⟨ib, 0, none⟩), .int .i64 v, .pointer (some ⟨r, 0, none⟩), .tuple #[], .pointer (some ⟨r, 0, none⟩), .int .i64 c, .agg #[.int .i64 0, .int .i64 c, .slice none 0 0, .slice none 0 0, .int .i64 0, .slice none 0 0], .pointer (some ⟨r, 0, none⟩), .pointer (some ⟨ib, 2, none⟩), .slice A its.length cp, .int .i64 (its.length : Int), .bool true, .pointer (some ⟨r, 0, none⟩), .int .i64 v, t 17, t 18, t 19, t 20, t 21, t 22, t 23, t 24, t 25, undef], []⟩ ∧ Vals (planKn r ib A its.length cp v N) e t ∧ Ch 4 6 7 9 1 5 23 24 (Kn0 r g C L k2 c w ib (.slice A its.length cp) its k3) (Kn1 N r g C L k2 c w ib (.slice A its.length cp) its) (KnLit N r g C L k2 c w ib (.slice A its.length cp) its v) (KnApp N r g C L c w ib (.slice A its.length cp) its v) (fun w_ => ∃ tv, N.isOk ∧ KnAt r g C L k2 c w ib tv (its ++ [(v, rdV1 N)]) (rdK N) w_) e t wr) (by kernel_rfl) ?step ?start ?done
            case start => exact ⟨fun _ => false, fun j => if j = 17 then u17 else if j = 18 then u18 else if j = 19 then u19 else if j = 20 then u20 else if j = 21 then u21 else if j = 22 then u22 else if j = 23 then u23 else if j = 24 then u24 else if j = 25 then u25 else undef, rfl, rfl, Vals.start _ _, Ch.start _ (HP.out.next (Below.refl _ _).drew)⟩
            case step =>
              rintro lq_ aq_ wr ⟨e, t, rfl, rfl, hs, hm⟩ q_ o ho hi ha
              match q_, ho, hi, ha with
              | 0, ho, hi, ha =>
                obtain rfl : _ = o := Option.some.inj ho
                have hi : e 0 = false := hi
                refine wpOp_step (i := 0) rfl (fun K hK => ?_)
                have HK : Shut (∀ a w, _ → K a w) := hK
                clear hK ho
                have HS := Lib.hid hs
                have HM := Lib.hid hm
                have HI := Lib.hid hi
                clear hs ha hm hi
                go_simp
                exact HK.out _ _ ⟨upd e 0 true, upd t 17 _, rfl, rfl, by exact HS.out.put ok (i := 0) rfl, (by exact HM.out.of (by decide) (by decide) (by decide) (by decide) (by decide) (by decide) (fun h_ => absurd h_ (by decide)))⟩
              | 1, ho, hi, ha =>
                obtain rfl : _ = o := Option.some.inj ho
                have hi : e 1 = false := hi
                have T0 : t 17 = .pointer (some ⟨ib, 2, none⟩) := hs.val 0 rfl (ha { on := 0, ground := .data } (by simp) rfl)
                have H0 := Lib.hid T0
                have xa_ := (hm.load hi (B := fun w_ => IBlk ib 33 (.int .i64 0) (.int .i64 c) (.slice A its.length cp) (.slice none 0 0) (.int .i64 0) (.slice none 0 0) w_) (fun _ q => q.box) (fun _ q => q.2.box) (fun _ _ q => by obtain ⟨_, _, _, q⟩ := q; exact q.2.box)).box.c2
                refine wpOp_step (i := 1) rfl (fun K hK => ?_)
                have HK : Shut (∀ a w, _ → K a w) := hK
                clear hK ho
                have HS := Lib.hid hs
                have HM := Lib.hid hm
                have HI := Lib.hid hi
                clear hs ha hm hi
                go_simp
                exact HK.out _ _ ⟨upd e 1 true, upd (upd t 17 _) 18 _, rfl, rfl, by rw [upd_self H0.out]; exact HS.out.put ok (i := 1) rfl, (by rw [upd_self H0.out]; exact HM.out.of (by decide) (by decide) (by decide) (by decide) (by decide) (by decide) (fun h_ => absurd h_ (by decide)))⟩
              | 2, ho, hi, ha =>
                obtain rfl : _ = o := Option.some.inj ho
                have hi : e 2 = false := hi
                refine wpOp_step (i := 2) rfl (fun K hK => ?_)
                have HK : Shut (∀ a w, _ → K a w) := hK
                clear hK ho
                have HS := Lib.hid hs
                have HM := Lib.hid hm
                have HI := Lib.hid hi
                clear hs ha hm hi
                go_simp
                exact HK.out _ _ ⟨upd e 2 true, upd t 19 _, rfl, rfl, by exact HS.out.put ok (i := 2) rfl, (by exact HM.out.of (by decide) (by decide) (by decide) (by decide) (by decide) (by decide) (fun h_ => absurd h_ (by decide)))⟩
              | 3, ho, hi, ha =>
                obtain rfl : _ = o := Option.some.inj ho
                have hi : e 3 = false := hi
                refine wpOp_step (i := 3) rfl (fun K hK => ?_)
                have HK : Shut (∀ a w, _ → K a w) := hK
                clear hK ho
                have HS := Lib.hid hs
                have HM := Lib.hid hm
                have HI := Lib.hid hi
                clear hs ha hm hi
                go_simp
                exact HK.out _ _ ⟨upd e 3 true, upd t 20 _, rfl, rfl, by exact HS.out.put ok (i := 3) rfl, (by exact HM.out.of (by decide) (by decide) (by decide) (by decide) (by decide) (by decide) (fun h_ => absurd h_ (by decide)))⟩
              | 4, ho, hi, ha =>
                obtain rfl : _ = o := Option.some.inj ho
                have hi : e 4 = false := hi
                have T3 : t 20 = .pointer (some ⟨r, 0, none⟩) := hs.val 3 rfl (ha { on := 3, ground := .data } (by simp) rfl)
                have H3 := Lib.hid T3
                have hA0 := Lib.hid (hm.p0 hi)
                have CL_ := A3 wr hA0.out.rd
                refine wpOp_step (i := 4) rfl (fun K hK => ?_)
                have HK : Shut (∀ a w, _ → K a w) := hK
                clear hK ho
                have HS := Lib.hid hs
                have HM := Lib.hid hm
                have HI := Lib.hid hi
                clear hs ha hm hi
                go_simp
                (with_reducible refine CL_.mono ?_)
                intro e' w' hT
                cases N with
                | no j er =>
                  obtain ⟨rfl, kb⟩ := hT
                  go_wp2_with fail
                  rw [← show Rd.no j er = R from (congrArg (·.nx F) HQ.out).trans HR.out]
                  exact ⟨rfl, rfl, hA0.out.kb.trans kb⟩
                | ok u k4 =>
                  obtain ⟨v_, rfl, rfl, h1, kb⟩ := hT
                  go_wp2_with fail
                  exact HK.out _ _ ⟨upd e 4 true, upd (upd t 20 _) 21 _, rfl, rfl, by rw [upd_self H3.out]; exact HS.out.put ok (i := 4) rfl, (by rw [upd_self H3.out]; exact HM.out.call HI.out (by decide) (by decide) (by decide) (hA0.out.call hr0 rfl h1 kb))⟩
              | 5, ho, hi, ha =>
                obtain rfl : _ = o := Option.some.inj ho
                have hi : e 5 = false := hi
                have T2 : t 19 = .int .i64 v := hs.val 2 rfl (ha { on := 2, ground := .data } (by simp) rfl)
                have H2 := Lib.hid T2
                have T4 : t 21 = .int .i64 (rdV1 N) := hs.val 4 rfl (ha { on := 4, ground := .data } (by simp) rfl)
                have H4 := Lib.hid T4
                have D4 : Hid (e 4 = true) := ha { on := 4, ground := .data } (by simp) rfl
                refine wpOp_step (i := 5) rfl (fun K hK => ?_)
                have HK : Shut (∀ a w, _ → K a w) := hK
                clear hK ho
                have HS := Lib.hid hs
                have HM := Lib.hid hm
                have HI := Lib.hid hi
                clear hs ha hm hi
                go_simp
                exact HK.out _ _ ⟨upd e 5 true, upd (upd (upd t 19 _) 21 _) 22 _, rfl, rfl, by rw [upd_self H2.out, upd_self H4.out]; exact HS.out.put ok (i := 5) rfl, (by rw [upd_self H2.out, upd_self H4.out]; exact HM.out.of (by decide) (by decide) (by decide) (by decide) (by decide) (by decide) (fun _ => D4.out))⟩
              | 6, ho, hi, ha =>
                obtain rfl : _ = o := Option.some.inj ho
                have hi : e 6 = false := hi
                have T5 : t 22 = .agg #[.int .i64 v, .int .i64 (rdV1 N)] := hs.val 5 rfl (ha { on := 5, ground := .data } (by simp) rfl)
                have H5 := Lib.hid T5
                have D4 : Hid (e 4 = true) := hm.b1 (ha { on := 5, ground := .data } (by simp) rfl)
                refine wpOp_step (i := 6) rfl (fun K hK => ?_)
                have HK : Shut (∀ a w, _ → K a w) := hK
                clear hK ho
                have HS := Lib.hid hs
                have HM := Lib.hid hm
                have HI := Lib.hid hi
                clear hs ha hm hi
                go_simp
                exact HK.out _ _ ⟨upd e 6 true, upd (upd t 22 _) 23 _, rfl, rfl, by rw [upd_self H5.out]; exact HS.out.skip' (i := 6) rfl rfl, (by rw [upd_self H5.out]; exact HM.out.make HI.out D4.out (by decide) (by decide) (by decide) (HM.out.p1 D4.out HI.out).lit)⟩
              | 7, ho, hi, ha =>
                obtain rfl : _ = o := Option.some.inj ho
                have hi : e 7 = false := hi
                have d1 : e 1 = true := ha { on := 1, ground := .data } (by simp) rfl
                have d6 : e 6 = true := ha { on := 6, ground := .data } (by simp) rfl
                have TS_ : t 18 = .slice A its.length cp := hs.val 1 rfl d1
                obtain ⟨g_, TX, hN, hB⟩ := hm.p2 d6 hi
                refine wpOp_step (i := 7) rfl (fun K hK => ?_)
                refine step_append_lies wr rfl (.tmp 18) (.tmp 23) 30 rfl (ib + 1) 70 i0 (.agg #[.int .i64 0, .int .i64 0]) 2 16 Tryz.underlying30 hi0 hz01 hz02 hz03 rfl (by decide) (.slice A its.length cp) its.length (fl2 its) TS_ hB.2.own ⟨g_, 0, none⟩ 1 1 [.int .i64 v, .int .i64 (rdV1 N)] TX rfl (World.news_of_block hN) (two_oneP _ _) (by omega) (by unfold maxLen; omega) (by omega) hB.2.box.lt wr.heap.size rfl ?_
                intro g' c' w' hown hgrow hat _
                exact hK _ _ ⟨upd e 7 true, upd t 24 _, rfl, rfl, hs.skip' (i := 7) rfl rfl, hm.app hi d6 d1 (by decide) (by decide) (by decide) (by decide) (hB.app hr0 hg0 hown hgrow)⟩
              | 8, ho, hi, ha =>
                obtain rfl : _ = o := Option.some.inj ho
                have hi : e 8 = false := hi
                refine wpOp_step (i := 8) rfl (fun K hK => ?_)
                have HK : Shut (∀ a w, _ → K a w) := hK
                clear hK ho
                have HS := Lib.hid hs
                have HM := Lib.hid hm
                have HI := Lib.hid hi
                clear hs ha hm hi
                go_simp
                exact HK.out _ _ ⟨upd e 8 true, upd t 25 _, rfl, rfl, by exact HS.out.put ok (i := 8) rfl, (by exact HM.out.of (by decide) (by decide) (by decide) (by decide) (by decide) (by decide) (fun h_ => absurd h_ (by decide)))⟩
              | 9, ho, hi, ha =>
                obtain rfl : _ = o := Option.some.inj ho
                have hi : e 9 = false := hi
                have T8 : t 25 = .pointer (some ⟨ib, 2, none⟩) := hs.val 8 rfl (ha { on := 8, ground := .data } (by simp) rfl)
                have H8 := Lib.hid T8
                have DP : Hid (e 7 = true) := ha { on := 7, ground := .data } (by simp) rfl
                have hA3 := hm.p3 DP.out hi
                obtain ⟨g_, c_, _, T24, _, _, hbx, _⟩ := id hA3
                have H24 := Lib.hid T24
                have of_ := hbx.free 2
                have oc_ := hbx.box.c2
                have HA3 := Lib.hid hA3
                clear hA3 hbx
                refine wpOp_step (i := 9) rfl (fun K hK => ?_)
                have HK : Shut (∀ a w, _ → K a w) := hK
                clear hK ho
                have HS := Lib.hid hs
                have HM := Lib.hid hm
                have HI := Lib.hid hi
                clear hs ha hm hi
                go_simp
                exact HK.out _ _ ⟨upd e 9 true, (upd (upd t 25 _) 24 _), rfl, rfl, by rw [upd_self H8.out, upd_self H24.out]; exact HS.out.skip (i := 9) rfl, (by rw [upd_self H8.out, upd_self H24.out, ← H24.out]; exact HM.out.st DP.out (by decide) (by decide) (by decide) (by decide) ⟨_, HA3.out.ok, HA3.out.st hr0 hg0 hnn hl2 HQ.out⟩)⟩
              | k + 10, ho, hi, ha => simp at ho
            case done =>
              rintro lq_ aq_ wr ⟨e, t, rfl, rfl, hs, hm⟩ hr
              have hd := ready_done hr rfl (by decide +kernel)
              have E : Hid (∃ tv, N.isOk ∧ KnAt r g C L k2 c w ib tv (its ++ [(v, rdV1 N)]) (rdK N) wr) := hm.p4 (hd 9 (by decide))
              clear hd hr hs ok hm HP
              generalize t 17 = t17, t 18 = t18, t 19 = t19, t 20 = t20, t 21 = t21, t 22 = t22, t 23 = t23, t 24 = t24, t 25 = t25 at *
              go_wp2
              go_roundw
              case rel =>
                obtain ⟨tv, _, hE⟩ := E.out
                exact ⟨tv, its ++ [(v, rdV1 N)], rdK N, hE⟩
              case measure =>
                obtain ⟨tv, ⟨u, k4, rfl⟩, hE⟩ := E.out
                obtain ⟨_, _, _, _, _, _, q⟩ := hN2 u k4 rfl
                have hlt4 := hE.rd.lt
                rw [hE.rd.left, HL.out]
                have := HK3.out
                simp only [rdK] at *
                omega
end Go.Proofs.YtbadingdklenhaaGreatDoor
