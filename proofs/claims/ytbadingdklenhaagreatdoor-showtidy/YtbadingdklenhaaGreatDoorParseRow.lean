/-
  What the reader's row does.
-/
import Derived.Test.YtbadingdklenhaaGreatDoorParseElems
namespace Go.Proofs.YtbadingdklenhaaGreatDoor
set_option maxRecDepth 100000
open Go.RowKit

theorem infoN : (Tryz.prog.info? 2).map (fun i => (i.zero, i.size, i.bytes)) = some (some (.int .i64 0), 1, 8) := by kernel_rfl
theorem madeZ (N : Nat) : madeCells #[.int .i64 0] N = (nl (List.replicate N 0)).toArray := by
  apply Array.ext
  · simp [madeCells, nl]
  · intro i h1 h2
    simp [madeCells, nl, Nat.mod_one]
/-- A row of n numbers in a block, the first of which are read. -/
structure RwAt (r g C : Nat) (L : List Tk) (n own : Nat) (hollow : Bool) (k1 : Nat) (w : World) (B : Nat) (acc : List Int) (k : Nat) (wr : World) : Prop where
  mk ::
  cells : wr.heap[B]? = some (.cells (nl (acc ++ List.replicate (n - acc.length) 0)).toArray 2 (0, 0))
  rd : RdS r g C L k wr
  kb : Kb r w wr
  q : cellsR L own hollow (n - acc.length) acc k = cellsR L own hollow n [] k1
  len : acc.length ≤ n
  new : w.heap.size ≤ B
theorem set_front {acc : List Int} {m : Nat} (x : Int) : (acc ++ List.replicate (m + 1) 0).set acc.length x = (acc ++ [x]) ++ List.replicate m 0 := by
  rw [List.set_append_right _ _ (Nat.le_refl _), Nat.sub_self, List.replicate_succ, List.set_cons_zero]
  simp
theorem RwAt.step {r g C : Nat} {L : List Tk} {n own : Nat} {hollow : Bool} {k1 : Nat} {w wr w1 : World} {B : Nat} {acc : List Int} {k k2 : Nat} {x : Int} (h : RwAt r g C L n own hollow k1 w B acc k wr) (hr0 : r < w.heap.size) (hg0 : g < w.heap.size) (kb : Kb r wr w1) (h1 : RdS r g C L k2 w1)
    (hlt : acc.length < n) (o : Obj) (hq : cellsR L own hollow (n - (acc.length + 1)) (acc ++ [x]) k2 = cellsR L own hollow n [] k1) : RwAt r g C L n own hollow k1 w B (acc ++ [x]) k2 ((w1.setCell ⟨B, acc.length, none⟩ (.int .i64 x)).alloc o) := by
  have hBl : B < wr.heap.size := (Array.getElem?_eq_some_iff.1 h.cells).1
  have hnew := h.new
  have hc1 : w1.heap[B]? = _ := (kb.block B hBl (by omega)).trans h.cells
  have hs1 := kb.size
  obtain ⟨m, hm⟩ : ∃ m, n - acc.length = m + 1 := ⟨n - acc.length - 1, by omega⟩
  refine ⟨?_, ?_, ?_, ?_, by simp; omega, hnew⟩
  · rw [Below.heap_alloc _ _ _ (by simp [World.setCell]; omega)]
    have := heap_setCell_same w1 B acc.length _ _ (.int .i64 x) hc1
    rw [List.setIfInBounds_toArray] at this
    rw [this]
    rw [hm, show n - (acc ++ [x]).length = m by simp; omega, ← set_front]
    unfold nl
    rw [List.map_set]
  · exact (h1.other (a := ⟨B, acc.length, none⟩) (show B ≠ r by omega) (show B ≠ g by omega) _).next (new_below _ _)
  · exact ((h.kb.trans kb).new (a := ⟨B, acc.length, none⟩) hnew _).alloc _
  · rw [List.length_append, List.length_singleton]; exact hq
theorem RwAt.read {r g C : Nat} {L : List Tk} {n own : Nat} {hollow : Bool} {k1 : Nat} {w wr w1 : World} {B : Nat} {acc : List Int} {k : Nat} (h : RwAt r g C L n own hollow k1 w B acc k wr) (hr0 : r < w.heap.size) (kb : Kb r wr w1) (hlt : acc.length < n) : B < w1.heap.size ∧ w1.cell? ⟨B, acc.length, none⟩ = some (.int .i64 0) ∧ w1.frozen? ⟨B, acc.length, none⟩ = false := by
  have hBl : B < wr.heap.size := (Array.getElem?_eq_some_iff.1 h.cells).1
  have hnew := h.new
  have hc1 : w1.heap[B]? = _ := (kb.block B hBl (by omega)).trans h.cells
  refine ⟨Nat.lt_of_lt_of_le hBl kb.size, ?_, frozen_of_row w1 _ _ _ _ hc1⟩
  obtain ⟨m, hm⟩ : ∃ m, n - acc.length = m + 1 := ⟨n - acc.length - 1, by omega⟩
  unfold World.cell?
  simp only [hc1]
  have e : (acc ++ List.replicate (n - acc.length) 0)[acc.length]? = some 0 := by
    rw [List.getElem?_append_right (Nat.le_refl _), Nat.sub_self, hm, List.replicate_succ]
    rfl
  simp [nl_get e]
/-- What a row is in memory. -/
def RowV (n : Nat) (w : World) (l : List Int) (v : Value) (w' : World) : Prop := ∃ B, w.heap.size ≤ B ∧ v = .slice (some ⟨B, 0, none⟩) n n ∧ l.length = n ∧ w'.heap[B]? = some (.cells (nl l).toArray 2 (0, 0))

theorem cellsR_succ (L : List Tk) (own : Nat) (hollow : Bool) (f : Nat) (acc : List Int) (k : Nat) : cellsR L own hollow (f + 1) acc k = (numR L (-2147483648) 2147483648 22 k).nx fun x k1 => if hollow = true ∧ acc.length = own ∧ x ≠ 0 then .no k 4 else cellsR L own hollow f (acc ++ [x]) k1 := rfl
set_option maxHeartbeats 2000000 in
theorem row_any (r g C : Nat) (L : List Tk) (hE : EndL L) (k0 n own : Nat) (hollow : Bool) (hn1 : 1 ≤ n) (hn2 : n ≤ 64) (w : World) (h : RdS r g C L k0 w) :
    Calls Tryz.prog 97 #[.pointer (some ⟨r, 0, none⟩), .int .i64 (n : Nat), .int .i64 (own : Nat), .bool hollow] w (Tells r L w (rowR L n own hollow k0) (RowV n w) (RdS r g C L)) := by
  have WR := word_any r g C L hE k0 ⟨#[114, 111, 119]⟩ rowW rfl w h
  obtain ⟨i0, hi, hz01, hz02, hz03⟩ := info_parts infoN
  have hmk : ∀ W, (Instr.makeSlice 68 (.int .i64 (n : Int)) (.int .i64 (n : Int))).run Tryz.prog W = .ok (.slice (some ⟨W.heap.size, 0, none⟩) n n) (W.alloc (.cells (madeCells #[.int .i64 0] n) 2)) := by
    intro W
    have := run_make (P := Tryz.prog) W 68 2 i0 (.int .i64 0) Tryz.underlying68 hi hz01 .i64 .i64 (n : Int) (n : Int) (by omega) (by omega) (by rw [hz03]; omega) (by omega)
    rw [hz02] at this
    simpa [Value.cells] using this
  have hr0 := h.size
  have hg0 := h.toks.1
  cases hwr : wordR L rowW k0 with
  | no j er =>
    have e0 : rowR L n own hollow k0 = .no j er := by unfold rowR; rw [hwr]; rfl
    rw [hwr, tells_no] at WR
    rw [e0, tells_no]
    unfold Dies at *
    go_enter Tryz.func97, Tryz.ntmps97
    go_wp2_with fail
    with_reducible refine WR.mono ?_
    rintro e w1 ⟨rfl, kb⟩
    go_wp2
    exact ⟨rfl, rfl, kb⟩
  | ok a k1 =>
    have e0 : rowR L n own hollow k0 = cellsR L own hollow n [] k1 := by unfold rowR; rw [hwr]; rfl
    rw [hwr, tells_ok] at WR
    obtain ⟨R, hR⟩ : ∃ R, cellsR L own hollow n [] k1 = R := ⟨_, rfl⟩
    rw [e0, hR]
    have HR := Lib.hid hR
    clear e0 hwr hR h
    go_enter Tryz.func97, Tryz.ntmps97
    go_wp2_with fail
    with_reducible refine WR.mono ?_
    rintro e w1 ⟨v, rfl, rfl, h1, kb⟩
    have hA0 : RwAt r g C L n own hollow k1 w w1.heap.size [] k1 (w1.alloc (.cells (madeCells #[.int .i64 0] n) 2)) :=
      ⟨by rw [heap_alloc_new, madeZ]; simp, h1.next (new_below _ _), kb.alloc _, by simp, by simp, kb.size⟩
    obtain ⟨B, hB⟩ : ∃ B, w1.heap.size = B := ⟨_, rfl⟩
    have hBs : w.heap.size ≤ B := by have := kb.size; omega
    clear h1 kb WR
    go_wp2
    rw [hB] at hA0
    have HA0 := Lib.hid hA0
    clear hA0 hB hmk
    go_loopw [18, 10, 11] (fun i _ _ wr => ∃ (acc : List Int) (k : Nat), i = .int .i64 (acc.length : Nat) ∧ Hid (RwAt r g C L n own hollow k1 w B acc k wr)) (fun i _ _ _ => n - (intOf i).toNat)
    case atStart => exact ⟨[], k1, rfl, HA0⟩
    case round =>
      obtain ⟨acc, k, rfl, hA⟩ := hrel
      have HA := Lib.hid hA.out
      clear hA HA0
      have hlen := HA.out.len
      rcases Nat.lt_or_ge acc.length n with hlt | hlt
      · have hrd := HA.out.rd
        obtain ⟨m, hm⟩ : ∃ m, n - acc.length = m + 1 := ⟨n - acc.length - 1, by omega⟩
        have hq := HA.out.q
        rw [hm, cellsR_succ] at hq
        have NB := number_any r g C L hE k (-2147483648) 2147483648 22 22 rfl wr hrd
        have hklt := hrd.lt
        have c1 : (acc.length : Int) < (n : Int) := by omega
        have c0 : (0 : Int) ≤ (acc.length : Int) := by omega
        have hrs := hrd.size
        have HQ := Lib.hid hq
        have hOk := fun v j => numR_ok (L := L) (lo := -2147483648) (hi := 2147483648) (e := 22) (k := k) (x := v) (k' := j)
        have HRD := Lib.hid hrd
        clear hq hrd
        generalize numR L (-2147483648) 2147483648 22 k = N at *
        cases N with
        | no j er =>
          rw [tells_no] at NB
          unfold Dies at NB
          have HRR := Lib.hid (HQ.out.trans HR.out)
          have HK := Lib.hid HA.out.kb
          clear HQ hOk
          go_wp2_with fail
          with_reducible refine NB.mono ?_
          rintro e w2 ⟨rfl, kb⟩
          go_wp2
          rw [← HRR.out]
          exact ⟨rfl, rfl, HK.out.trans kb⟩
        | ok v k2 =>
          rw [tells_ok] at NB
          have hq := HQ.out
          simp only [Rd.nx] at hq
          by_cases hbad : hollow = true ∧ acc.length = own ∧ v ≠ 0
          · rw [if_pos hbad] at hq
            obtain ⟨rfl, rfl, hv0⟩ := hbad
            have HRR := Lib.hid (hq.trans HR.out)
            have HK := Lib.hid HA.out.kb
            clear HQ hOk hq
            go_wp2_with fail
            with_reducible refine NB.mono ?_
            rintro e w2 ⟨v', rfl, ⟨y, hy, hyn, rfl⟩, h2, kb⟩
            subst hyn
            have HF := Lib.hid (fltV_at hy 4)
            have hyz : (y.n == 0) = false := by simpa using hv0
            unfold tkV
            clear hy NB
            go_wp2
            rw [← HRR.out, tells_no]
            unfold Dies
            rw [HF.out]
            exact ⟨rfl, rfl, (HK.out.trans kb).alloc _⟩
          · rw [if_neg hbad] at hq
            rw [show m = n - (acc.length + 1) by omega] at hq
            have HQ2 := Lib.hid hq
            clear HQ hOk hq
            have tl : ∀ (W0 : World) (y : Tk) (o : Obj), y.n = v → Kb r wr W0 → RdS r g C L k2 W0 → Hid (RwAt r g C L n own hollow k1 w B (acc ++ [y.n]) k2 ((W0.setCell ⟨B, acc.length, none⟩ (.int .i64 y.n)).alloc o)) := fun W0 y o hy a b => by
              subst hy
              exact HA.out.step hr0 hg0 a b hlt o HQ2.out
            have HR2 := Lib.hid (fun W0 (a : Kb r wr W0) => HA.out.read hr0 a hlt)
            have HT := Lib.hid tl
            clear tl HQ2
            rcases Bool.eq_false_or_eq_true hollow with hh | hh
            · by_cases ho : acc.length = own
              · have hv0 : v = 0 := Decidable.byContradiction fun q => hbad ⟨hh, ho, q⟩
                subst hh
                subst hv0
                have ho2 : ((acc.length : Int) == (own : Int)) = true := by simp [ho]
                clear hbad ho
                go_wp2_with fail
                with_reducible refine NB.mono ?_
                rintro e w2 ⟨v', rfl, ⟨y, hy, hyn, rfl⟩, h2, kb⟩
                obtain ⟨rb, rc, rf⟩ := HR2.out _ kb
                have HO := Lib.hid (fun o => HT.out w2 y o hyn kb h2)
                unfold tkV
                rw [hyn] at HO ⊢
                clear hy NB HR2 HT
                go_wp2
                exact ⟨⟨acc ++ [0], k2, by simp, HO.out _⟩, by simp [intOf]; omega⟩
              · have ho2 : ((acc.length : Int) == (own : Int)) = false := by simp; omega
                subst hh
                clear hbad ho
                go_wp2_with fail
                with_reducible refine NB.mono ?_
                rintro e w2 ⟨v', rfl, ⟨y, hy, hyn, rfl⟩, h2, kb⟩
                obtain ⟨rb, rc, rf⟩ := HR2.out _ kb
                have HO := Lib.hid (fun o => HT.out w2 y o hyn kb h2)
                unfold tkV
                clear hy NB HR2 HT hyn
                go_wp2
                exact ⟨⟨acc ++ [y.n], k2, by simp, HO.out _⟩, by simp [intOf]; omega⟩
            · subst hh
              clear hbad
              go_wp2_with fail
              with_reducible refine NB.mono ?_
              rintro e w2 ⟨v', rfl, ⟨y, hy, hyn, rfl⟩, h2, kb⟩
              obtain ⟨rb, rc, rf⟩ := HR2.out _ kb
              have HO := Lib.hid (fun o => HT.out w2 y o hyn kb h2)
              unfold tkV
              clear hy NB HR2 HT hyn
              go_wp2
              exact ⟨⟨acc ++ [y.n], k2, by simp, HO.out _⟩, by simp [intOf]; omega⟩
      · obtain rfl : acc.length = n := by omega
        have hq := HA.out.q
        rw [Nat.sub_self] at hq
        have hq2 : Rd.ok acc k = cellsR L own hollow acc.length [] k1 := hq
        have HRR := Lib.hid (hq2.trans HR.out)
        clear hq hq2
        have hcell := HA.out.cells
        rw [Nat.sub_self, List.replicate_zero, List.append_nil] at hcell
        have HC := Lib.hid hcell
        clear hcell
        go_wp2
        go_ret
        rw [← HRR.out, tells_ok]
        exact ⟨_, rfl, ⟨B, hBs, rfl, rfl, HC.out⟩, HA.out.rd, HA.out.kb⟩
end Go.Proofs.YtbadingdklenhaaGreatDoor
