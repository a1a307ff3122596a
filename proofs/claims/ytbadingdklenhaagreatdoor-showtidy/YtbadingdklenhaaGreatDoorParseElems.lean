/-
  What the reader's elems does.
-/
import Derived.Test.YtbadingdklenhaaGreatDoorParseOther
namespace Go.Proofs.YtbadingdklenhaaGreatDoor
set_option maxRecDepth 100000
open Go.RowKit

/-- How many tokens the reader has left. -/
def leftN (r : Nat) (w : World) : Nat := match w.cell? ⟨r, 0, none⟩ with
  | some (.slice _ n _) => n
  | _ => 0
theorem RdS.left {r g C k : Nat} {L : List Tk} {w : World} (h : RdS r g C L k w) : leftN r w = L.length - k := by
  unfold leftN; rw [h.cell]
theorem infoI : (Tryz.prog.info? 3).map (fun i => (i.zero, i.size, i.bytes)) = some (some (.int .i64 0), 1, 8) := by kernel_rfl

structure ElAt (r g C : Nat) (L : List Tk) (size : Int) (k0 : Nat) (w : World) (v : Value) (least : Int) (acc : List Int) (k : Nat) (wr : World) : Prop where
  mk ::
  own : wr.ownsRow w.heap.size 3 1 v acc.length (nl acc)
  rd : RdS r g C L k wr
  kb : Kb r w wr
  q : elemsG L size least acc k = elemsG L size 0 [] k0
  lo : 0 ≤ least
  hi : least ≤ size
  ln : acc.length ≤ k
theorem ElAt.step {r g C : Nat} {L : List Tk} {size : Int} {k0 : Nat} {w wr w1 w3 : World} {v v' : Value} {m n : Int} {acc : List Int} {k k2 : Nat} {o : Obj} (h : ElAt r g C L size k0 w v m acc k wr) (hr0 : r < w.heap.size) (hg0 : g < w.heap.size) (kb : Kb r wr w1) (h1 : RdS r g C L k2 w1) (hgr : (w1.alloc o).grownBy w3 v.ownBlock)
    (own' : w3.ownsRow w.heap.size 3 1 v' (acc.length + 1) (nl acc ++ [.int .i64 n])) (hq : elemsG L size (n + 1) (acc ++ [n]) k2 = elemsG L size 0 [] k0) (hk : k2 = k + 1) (hv1 : m ≤ n) (hv2 : n ≤ size - 1) : ElAt r g C L size k0 w v' (n + 1) (acc ++ [n]) k2 w3 := by
  have hrow : ∀ q, v.ownBlock = some q → w.heap.size ≤ q := fun q hq => (h.own.lt q hq).1
  have hlo := h.lo
  have hln := h.ln
  refine ⟨?_, ?_, ?_, hq, by omega, by omega, by simp; omega⟩
  · simpa [nl] using own'
  · exact (h1.next (new_below w1 o)).grown hgr (B := w.heap.size) ⟨hr0, hg0⟩ hrow
  · exact (h.kb.trans (kb.alloc o)).grown hgr hrow
set_option maxHeartbeats 2000000 in
theorem elems_any (r g C : Nat) (L : List Tk) (hE : EndL L) (hN : L.length ≤ 2000000) (k0 : Nat) (size : Int) (hz1 : 0 ≤ size) (hz2 : size ≤ 4096) (w : World) (h : RdS r g C L k0 w) :
    Calls Tryz.prog 98 #[.pointer (some ⟨r, 0, none⟩), .int .i64 size] w (Tells r L w (elemsG L size 0 [] k0) (fun l v w' => w'.ownsRow w.heap.size 3 1 v l.length (nl l)) (RdS r g C L)) := by
  obtain ⟨R, hR⟩ : ∃ R, elemsG L size 0 [] k0 = R := ⟨_, rfl⟩
  have hA0 : ElAt r g C L size k0 w (.slice none 0 0) 0 [] k0 w := ⟨World.ownsRow_nil _ _ _ _, h, Kb.refl _ _, rfl, by omega, hz1, by simp⟩
  rw [hR]
  have hr0 := h.size
  have hg0 := h.toks.1
  have HR := Lib.hid hR
  obtain ⟨i0, hi, hz01, hz02, hz03⟩ := info_parts infoI
  clear hR h
  go_enter Tryz.func98, Tryz.ntmps98
  go_wp2
  go_loopw [5, 6, 7] (fun l least _ wr => ∃ (m : Int) (acc : List Int) (k : Nat), least = .int .i64 m ∧ Hid (ElAt r g C L size k0 w l m acc k wr)) (fun _ _ _ wr => leftN r wr)
  case atStart => exact ⟨0, [], k0, rfl, hA0⟩
  case round =>
    obtain ⟨m, acc, k, rfl, hA⟩ := hrel
    have HA := Lib.hid hA.out
    clear hA
    have hrd := HA.out.rd
    obtain ⟨x, hx⟩ := hE.at hrd.lt
    obtain ⟨t0, t1, t2, t3, t4⟩ := hrd.toks.get hx
    have cell := hrd.cell
    have hlt := hrd.lt
    have hgs := hrd.toks.1
    have hrs := hrd.size
    obtain ⟨n1, hn1⟩ : ∃ n, L.length - k = n + 1 := ⟨L.length - k - 1, by omega⟩
    have hm1 := HA.out.lo
    have hm2 := HA.out.hi
    have hm3 := HA.out.ln
    rw [hn1] at cell
    have HL := Lib.hid hrd.left
    have hRD1 : ∀ {j : Nat} {W : World}, RdS r g C L j W → j < L.length := fun h => h.lt
    have HQ := Lib.hid ((elemsG_eq hE size m acc hlt).symm.trans HA.out.q)
    by_cases hc : x.kind = 1
    · have hi1 : isN L k = true := by unfold isN; rw [hx]; simp [hc]
      have hq := HQ.out
      rw [if_pos hi1] at hq
      have NB := number_any r g C L hE k m (size - 1) 4 4 rfl wr hrd
      rw [hc] at t0
      have hOk := fun v j => numR_ok (L := L) (lo := m) (hi := size - 1) (e := 4) (k := k) (x := v) (k' := j)
      have hw1 : (-9223372036854775808 : Int) ≤ size - 1 ∧ size - 1 ≤ 9223372036854775807 := by omega
      generalize numR L m (size - 1) 4 k = N at *
      cases N with
      | ok v k2 =>
        rw [tells_ok] at NB
        obtain ⟨_, _, _, _, hv1, hv2, hk2⟩ := hOk v k2 rfl
        have hq2 : elemsG L size (v + 1) (acc ++ [v]) k2 = elemsG L size 0 [] k0 := hq
        have HQ2 := Lib.hid hq2
        have hf := fun a b c d n W => fld_n a b c d n W
        have HRD := Lib.hid hrd
        clear hq hq2 HQ hOk hi1 hc hx hrd
        go_wp2_with fail
        with_reducible refine NB.mono ?_
        rintro e w1 ⟨v', rfl, ⟨y, hy, hyn, rfl⟩, h1, kb⟩
        subst hyn
        unfold tkV
        clear hy NB
        have own1 := kb.own hr0 HA.out.own
        have HST := Lib.hid (fun o w3 v'' a b => HA.out.step (o := o) (w3 := w3) (v' := v'') hr0 hg0 kb h1 a b HQ2.out hk2 hv1 hv2)
        have hl1 := hRD1 h1
        have hsz := (HA.out.kb.trans kb).size
        clear HQ2 HRD HA kb
        have hal : acc.length ≤ 2000000 := by omega
        go_wp2_with (at_builtin; refine wpList_append_own _ rfl _ _ 65 rfl w.heap.size 3 i0 (.int .i64 0) 1 8 Tryz.underlying65 hi hz01 hz02 hz03 rfl (by decide) _ _ _ rfl (own1.alloc _) ⟨w1.heap.size, 0, none⟩ 1 1 [.int .i64 y.n] rfl rfl ?c1 ?c2 ?c3 ?c4 ?c5 ?_)
        case c1 =>
          intro j v hj
          match j, hj with
          | 0, hj => simp at hj; subst hj; simp [Addr.add]
        case c2 => intro v hv; simp at hv; subst hv; rfl
        case c3 => unfold maxLen; omega
        case c4 => omega
        case c5 => simp; omega
        · intro v' w3 hown' hgrow _
          have HO := Lib.hid (HST.out _ _ _ hgrow hown')
          clear HST hown' hgrow own1
          go_wp2
          go_roundw
          case rel => exact ⟨y.n + 1, acc ++ [y.n], k2, by go_num, HO.out⟩
          case measure =>
            rw [HO.out.rd.left, HL.out]
            omega
      | no j er =>
        rw [tells_no] at NB
        unfold Dies at NB
        have hRR := hq.trans HR.out
        simp only [Rd.nx] at hRR
        have HRR := Lib.hid hRR
        have HK := Lib.hid HA.out.kb
        clear hq HQ hOk hi1 hc hx hrd hRR
        go_wp2_with fail
        with_reducible refine NB.mono ?_
        rintro e w1 ⟨rfl, kb⟩
        go_wp2
        rw [← HRR.out, tells_no]
        exact ⟨rfl, rfl, HK.out.trans kb⟩
    · have hi1 : ¬ isN L k = true := by unfold isN; rw [hx]; simp [hc]
      have hq := HQ.out.trans HR.out
      rw [if_neg hi1] at hq
      have HQ2 := Lib.hid hq
      have hc2 : ¬ (x.kind : Int) = 1 := by omega
      clear HQ hq hi1 hc hx hrd
      go_wp2
      go_ret
      rw [← HQ2.out, tells_ok]
      exact ⟨_, rfl, HA.out.own, HA.out.rd, HA.out.kb⟩
end Go.Proofs.YtbadingdklenhaaGreatDoor
