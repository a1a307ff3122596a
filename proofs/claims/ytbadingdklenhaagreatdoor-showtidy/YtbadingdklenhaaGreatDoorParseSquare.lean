/-
  What the reader's square does.
-/
import Derived.Test.YtbadingdklenhaaGreatDoorParseKnap
namespace Go.Proofs.YtbadingdklenhaaGreatDoor
set_option maxRecDepth 100000
open Go.RowKit

theorem infoRw : (Tryz.prog.info? 68).map (fun i => (i.zero, i.size, i.bytes)) = some (some (.slice none 0 0), 1, 24) := by kernel_rfl
theorem madeS (N : Nat) : madeCells #[.slice none 0 0] N = (List.replicate N (Value.slice none 0 0)).toArray := by
  apply Array.ext
  · simp [madeCells]
  · intro i h1 h2
    simp [madeCells, Nat.mod_one]
/-- What stands while rows are read: the result's variable, the instance so far, its rows. -/
structure SqAt (r g C : Nat) (L : List Tk) (n : Nat) (hollow : Bool) (kind : Int) (k1 : Nat) (w : World) (cb : Nat) (us : List Value) (acc : List (List Int)) (k : Nat) (wr : World) : Prop where
  mk ::
  res : IBlk w.heap.size 33 (.int .i64 0) (.int .i64 0) (.slice none 0 0) (.slice none 0 0) (.int .i64 0) (.slice none 0 0) wr
  box : IBlk (cb + 1) 33 (.int .i64 kind) (.int .i64 0) (.slice none 0 0) (.slice (some ⟨cb, 0, none⟩) n n) (.int .i64 0) (.slice none 0 0) wr
  cells : wr.heap[cb]? = some (.cells (us ++ List.replicate (n - acc.length) (Value.slice none 0 0)).toArray 68 (0, 0))
  ul : us.length = acc.length
  rows : ∀ (i : Nat) q v, acc[i]? = some q → us[i]? = some v → Ints (fun b => cb + 1 < b) wr v q
  rd : RdS r g C L k wr
  kb : Kb r w wr
  q : rowsR L n hollow (n - acc.length) acc k = rowsR L n hollow n [] k1
  len : acc.length ≤ n
  ib0 : w.heap.size < cb
theorem set_frontV {us : List Value} {m : Nat} (x : Value) : (us ++ List.replicate (m + 1) (Value.slice none 0 0)).set us.length x = (us ++ [x]) ++ List.replicate m (Value.slice none 0 0) := by
  rw [List.set_append_right _ _ (Nat.le_refl _), Nat.sub_self, List.replicate_succ, List.set_cons_zero]
  simp
theorem ints_row {F : Nat → Prop} {w : World} {B n : Nat} {l : List Int} {t : TypeId} (hB : F B) (hl : l.length = n) (hn : n ≤ maxLen) (h : w.heap[B]? = some (.cells (nl l).toArray t (0, 0))) : Ints F w (.slice (some ⟨B, 0, none⟩) n n) l := by
  subst hl
  refine ⟨some ⟨B, 0, none⟩, l.length, rfl, Nat.le_refl _, hn, fun _ => ⟨B, 0, rfl, hB, (Array.getElem?_eq_some_iff.1 h).1, fun j v hj => ?_⟩⟩
  rw [Nat.zero_add]
  unfold World.cell?
  simp only [h]
  simp [hj]
theorem SqAt.next {r g C : Nat} {L : List Tk} {n : Nat} {hollow : Bool} {kind : Int} {k1 : Nat} {w : World} {cb : Nat} {us : List Value} {acc : List (List Int)} {k : Nat} {wr w1 : World} {B : Nat} {l : List Int} {k2 : Nat} (h : SqAt r g C L n hollow kind k1 w cb us acc k wr)
    (hr0 : r < w.heap.size) (hg0 : g < w.heap.size) (kb : Kb r wr w1) (h1 : RdS r g C L k2 w1) (hn : n ≤ 64) (hlt : acc.length < n) (hB : wr.heap.size ≤ B) (hl : l.length = n) (hc : w1.heap[B]? = some (.cells (nl l).toArray 2 (0, 0)))
    (hq : rowsR L n hollow (n - (acc.length + 1)) (acc ++ [l]) k2 = rowsR L n hollow n [] k1) :
    SqAt r g C L n hollow kind k1 w cb (us ++ [.slice (some ⟨B, 0, none⟩) n n]) (acc ++ [l]) k2 (w1.setCell ⟨cb, acc.length, none⟩ (.slice (some ⟨B, 0, none⟩) n n)) := by
  have hib := h.ib0
  have hul := h.ul
  have hbl := h.box.lt
  have hcl : cb < wr.heap.size := (Array.getElem?_eq_some_iff.1 h.cells).1
  have hc1 : w1.heap[cb]? = _ := (kb.block cb hcl (by omega)).trans h.cells
  obtain ⟨m, hm⟩ : ∃ m, n - acc.length = m + 1 := ⟨n - acc.length - 1, by omega⟩
  have hG : ∀ q, cb + 1 < q → q ≠ cb := fun q hq => by omega
  refine ⟨(h.res.kb kb (by omega)).other (a := ⟨cb, acc.length, none⟩) (show w.heap.size ≠ cb by omega) _, (h.box.kb kb (by omega)).other (a := ⟨cb, acc.length, none⟩) (show cb + 1 ≠ cb by omega) _, ?_, by simp [hul], fun i q v hq1 hv => ?_, h1.other (a := ⟨cb, acc.length, none⟩) (show cb ≠ r by omega) (show cb ≠ g by omega) _, (h.kb.trans kb).new (a := ⟨cb, acc.length, none⟩) (show w.heap.size ≤ cb by omega) _, ?_, by simp; omega, hib⟩
  · have := heap_setCell_same w1 cb acc.length _ _ (.slice (some ⟨B, 0, none⟩) n n) hc1
    rw [List.setIfInBounds_toArray] at this
    rw [this, hm, show n - (acc ++ [l]).length = m by simp; omega, ← hul, set_frontV]
  · rcases Nat.lt_or_ge i acc.length with hi | hi
    · rw [List.getElem?_append_left hi] at hq1
      rw [List.getElem?_append_left (by omega)] at hv
      exact ((h.rows i q v hq1 hv).held (kb.held (fun b hb => by omega))).held (set_held (a := ⟨cb, acc.length, none⟩) (fun b hb => hG b hb))
    · have hi2 : i = acc.length := by
        have := (List.getElem?_eq_some_iff.1 hq1).1
        simp at this
        omega
      subst hi2
      rw [List.getElem?_append_right (Nat.le_refl _), Nat.sub_self] at hq1
      rw [← hul, List.getElem?_append_right (Nat.le_refl _), Nat.sub_self] at hv
      obtain rfl : l = q := by simpa using hq1
      obtain rfl : Value.slice (some ⟨B, 0, none⟩) n n = v := by simpa using hv
      refine ints_row (t := 2) (F := fun b => cb + 1 < b) (by omega) hl (by unfold maxLen; omega) ?_
      rw [Below.heap_setCell _ _ _ _ (show B ≠ cb by omega)]
      exact hc
  · rw [List.length_append, List.length_singleton]; exact hq
theorem SqAt.read {r g C : Nat} {L : List Tk} {n : Nat} {hollow : Bool} {kind : Int} {k1 : Nat} {w : World} {cb : Nat} {us : List Value} {acc : List (List Int)} {k : Nat} {wr w1 : World} (h : SqAt r g C L n hollow kind k1 w cb us acc k wr) (hr0 : r < w.heap.size) (kb : Kb r wr w1) (hlt : acc.length < n) :
    w1.cell? ⟨cb + 1, 3, none⟩ = some (.slice (some ⟨cb, 0, none⟩) n n) ∧ cb + 1 < w1.heap.size ∧ cb < w1.heap.size ∧ w1.cell? ⟨cb, acc.length, none⟩ = some (.slice none 0 0) ∧ w1.frozen? ⟨cb, acc.length, none⟩ = false := by
  have hib := h.ib0
  have hcl : cb < wr.heap.size := (Array.getElem?_eq_some_iff.1 h.cells).1
  have hc1 : w1.heap[cb]? = _ := (kb.block cb hcl (by omega)).trans h.cells
  have hb := h.box.kb kb (by omega)
  refine ⟨hb.box.c3, hb.lt, Nat.lt_of_lt_of_le hcl kb.size, ?_, frozen_of_row w1 _ _ _ _ hc1⟩
  obtain ⟨m, hm⟩ : ∃ m, n - acc.length = m + 1 := ⟨n - acc.length - 1, by omega⟩
  unfold World.cell?
  simp only [hc1]
  have e : (us ++ List.replicate (n - acc.length) (Value.slice none 0 0))[acc.length]? = some (.slice none 0 0) := by
    rw [← h.ul, List.getElem?_append_right (Nat.le_refl _), Nat.sub_self, h.ul, hm, List.replicate_succ]
    rfl
  simp [e]
theorem SqAt.drew {r g C : Nat} {L : List Tk} {n : Nat} {hollow : Bool} {kind : Int} {k1 : Nat} {w : World} {cb : Nat} {us : List Value} {acc : List (List Int)} {k : Nat} {wr : World} (h : SqAt r g C L n hollow kind k1 w cb us acc k wr) : SqAt r g C L n hollow kind k1 w cb us acc k wr.drew :=
  have nb : Below wr.heap.size wr wr.drew := (Below.refl _ _).drew
  ⟨h.res.next nb, h.box.next nb, h.cells, h.ul, fun i q v a b => (h.rows i q v a b).next nb, h.rd.next nb, h.kb.next nb, h.q, h.len, h.ib0⟩
/-- Behind the call. -/
def Sq1 (N : Rd (List Int)) (r g C : Nat) (L : List Tk) (n : Nat) (W0 : World) (tv : Value) (wr : World) : Prop := ∃ B l k2, N = .ok l k2 ∧ W0.heap.size ≤ B ∧ tv = .slice (some ⟨B, 0, none⟩) n n ∧ l.length = n ∧ wr.heap[B]? = some (.cells (nl l).toArray 2 (0, 0)) ∧ RdS r g C L k2 wr ∧ Kb r W0 wr
theorem rowsR_succ (L : List Tk) (n : Nat) (hollow : Bool) (f : Nat) (acc : List (List Int)) (k : Nat) : rowsR L n hollow (f + 1) acc k = (rowR L n acc.length hollow k).nx fun r k1 => rowsR L n hollow f (acc ++ [r]) k1 := rfl
theorem ins_rows {w : World} {M cb n : Nat} {kind : Int} {us : List Value} {R : List (List Int)} {t : TypeId} (hc : w.heap[cb]? = some (.cells us.toArray t (0, 0))) (hM : M ≤ cb) (hu : us.length = R.length) (hn : R.length = n) (hn2 : n ≤ 64) (hr : ∀ (i : Nat) q v, R[i]? = some q → us[i]? = some v → Ints (fun b => M ≤ b) w v q) :
    Ins (fun b => M ≤ b) (fun b => M ≤ b) w (inV ⟨kind, 0, [], R, 0, []⟩ (.slice none 0 0) (.slice (some ⟨cb, 0, none⟩) n n) (.slice none 0 0)) ⟨kind, 0, [], R, 0, []⟩ := by
  subst hn
  refine ⟨⟨.slice none 0 0, _, .slice none 0 0, us, [], rfl, Lies.nil _ _ _, ⟨hu, ⟨some ⟨cb, 0, none⟩, R.length, rfl, Nat.le_refl _, by unfold maxLen; omega, fun _ => ⟨cb, 0, rfl, hM, (Array.getElem?_eq_some_iff.1 hc).1, fun j v hj => ?_⟩⟩, hr⟩, ⟨rfl, Lies.nil _ _ _, fun i r u a => by simp at a⟩⟩⟩
  rw [Nat.zero_add]
  unfold World.cell?
  simp only [hc]
  simp [hj]

def planSq (r cb n j : Nat) (kind : Int) (hb : Bool) : Plan := { ks := [0, 0, 0, 0, 0, 0, 0, 0, 0, 0, 2, 0, 2], ds := [18, 19, 20, 21, 22, 23, 24, 25, 26, 27, 28, 29, 0], vs := [.pointer (some ⟨cb + 1, 3, none⟩), .slice (some ⟨cb, 0, none⟩) n n, .int .i64 (j : Int), .pointer (some ⟨r, 0, none⟩), .pointer (some ⟨cb + 1, 3, none⟩), .slice (some ⟨cb, 0, none⟩) n n, .int .i64 (n : Int), .int .i64 (j : Int), .int .i64 kind, .bool hb, undef, .pointer (some ⟨cb, j, none⟩), undef], ss := [0, 0, 0, 0, 0, 0, 0, 0, 0, 0, 0, 0, 0], zs := [#[], #[], #[], #[], #[], #[], #[], #[], #[], #[], #[], #[], #[]], fs := [#[], #[], #[], #[], #[], #[], #[], #[], #[], #[], #[], #[], #[]], ts := [0, 0, 0, 0, 0, 0, 0, 0, 0, 0, 0, 0, 0] }
set_option maxHeartbeats 2000000 in
theorem square_any (r g C : Nat) (L : List Tk) (hE : EndL L) (k0 : Nat) (kind : Int) (w : World) (h : RdS r g C L k0 w) :
    Calls Tryz.prog 83 #[.pointer (some ⟨r, 0, none⟩), .int .i64 kind] w (Tells r L w (squareR L kind k0) (fun I v w' => Ins (fun b => w.heap.size ≤ b) (fun b => w.heap.size ≤ b) w' v I) (RdS r g C L)) := by
  have LM := fun W hW => limited_any r g C L hE k0 1 64 W hW
  obtain ⟨i0, hi0, hz01, hz02, hz03⟩ := info_parts infoRw
  have hr0 := h.size
  have hg0 := h.toks.1
  have hnk := fun x k' => numR_ok (L := L) (lo := 1) (hi := 64) (e := 22) (k := k0) (x := x) (k' := k')
  unfold squareR
  cases hwr : numR L 1 64 22 k0 with
  | no j er =>
    rw [hwr] at LM
    simp only [Rd.nx]
    rw [tells_no]
    simp only [tells_no] at LM
    unfold Dies at *
    go_enter Tryz.func83, Tryz.ntmps83
    go_wp2_with fail
    with_reducible refine (LM _ (h.next (new_below _ _))).mono ?_
    rintro e w1 ⟨rfl, kb⟩
    go_wp2
    exact ⟨rfl, rfl, (Kb.of (new_below w _)).trans kb⟩
  | ok x k1 =>
    rw [hwr] at LM hnk
    simp only [tells_ok] at LM
    obtain ⟨_, _, _, _, hx1, hx2, _⟩ := hnk x k1 rfl
    obtain ⟨n, rfl⟩ : ∃ n : Nat, x = (n : Int) := ⟨x.toNat, by omega⟩
    have hn1 : 1 ≤ n := by omega
    have hn2 : n ≤ 64 := by omega
    have hmk : ∀ W, (Instr.makeSlice 23 (.int .i64 (n : Int)) (.int .i64 (n : Int))).run Tryz.prog W = .ok (.slice (some ⟨W.heap.size, 0, none⟩) n n) (W.alloc (.cells (madeCells #[.slice none 0 0] n) 68)) := by
      intro W
      have := run_make (P := Tryz.prog) W 23 68 i0 (.slice none 0 0) Tryz.underlying23 hi0 hz01 .i64 .i64 (n : Int) (n : Int) (by omega) (by omega) (by rw [hz03]; omega) (by omega)
      rw [hz02] at this
      simpa [Value.cells] using this
    obtain ⟨hb, hhb⟩ : ∃ b, (kind == 2) = b := ⟨_, rfl⟩
    have hdb : decide (kind = 2) = hb := by rw [← hhb]; by_cases q : kind = 2 <;> simp [q]
    have hF : ∀ l j, (fun (R : List (List Int)) (k2 : Nat) => Rd.ok (⟨kind, 0, [], R, 0, []⟩ : In) k2) l j = .ok ⟨kind, 0, [], l, 0, []⟩ j := fun _ _ => rfl
    obtain ⟨F, hFe⟩ : ∃ F, (fun (R : List (List Int)) (k2 : Nat) => Rd.ok (⟨kind, 0, [], R, 0, []⟩ : In) k2) = F := ⟨_, rfl⟩
    change Calls _ _ _ _ (Tells r L w ((rowsR L (n : Int).toNat (decide (kind = 2)) (n : Int).toNat [] k1).nx (fun (R : List (List Int)) (k2 : Nat) => Rd.ok (⟨kind, 0, [], R, 0, []⟩ : In) k2)) _ _)
    rw [hFe] at hF
    rw [hFe, hdb, Int.toNat_natCast]
    obtain ⟨R, hR⟩ : ∃ R, (rowsR L n hb n [] k1).nx F = R := ⟨_, rfl⟩
    rw [hR]
    have HF := Lib.hid hF
    have HR := Lib.hid hR
    have HI0 := Lib.hid (iblk_new w (.int .i64 0) (.int .i64 0) (.slice none 0 0) (.slice none 0 0) (.int .i64 0) (.slice none 0 0) 33)
    have RW := fun k own W hW => row_any r g C L hE k n own hb hn1 hn2 W hW
    clear hwr hF hFe hR hdb hnk hx1 hx2
    go_enter Tryz.func83, Tryz.ntmps83
    go_wp2_with fail
    with_reducible refine (LM _ (h.next (new_below _ _))).mono ?_
    rintro e w1 ⟨v, rfl, rfl, h1, kb1⟩
    have hA0 : SqAt r g C L n hb kind k1 w w1.heap.size [] [] k1 ((w1.alloc (.cells (madeCells #[.slice none 0 0] n) 68)).alloc (.cells #[.int .i64 kind, .int .i64 0, .slice none 0 0, .slice (some ⟨w1.heap.size, 0, none⟩) n n, .int .i64 0, .slice none 0 0] 33)) := by
      refine ⟨((HI0.out.kb kb1 (by omega)).next (new_below _ _)).next (new_below _ _), ?_, ?_, rfl, fun i q v a => by simp at a, (h1.next (new_below _ _)).next (new_below _ _), ((((Kb.of (new_below w _)).trans kb1).alloc _).alloc _), by simp, by simp, by have := kb1.size; simp at *; omega⟩
      · have := iblk_new (w1.alloc (.cells (madeCells #[.slice none 0 0] n) 68)) (.int .i64 kind) (.int .i64 0) (.slice none 0 0) (.slice (some ⟨w1.heap.size, 0, none⟩) n n) (.int .i64 0) (.slice none 0 0) 33
        rw [World.size_alloc] at this
        exact this
      · rw [Below.heap_alloc _ _ _ (by simp), heap_alloc_new, madeS]
        simp
    have HA0 := Lib.hid hA0
    obtain ⟨cb, hcb⟩ : ∃ cb, w1.heap.size = cb := ⟨_, rfl⟩
    clear hA0 HI0 h1 kb1 h
    go_wp2
    rw [hcb] at HA0
    clear hcb hmk
    go_loopw [15, 6] (fun i _ wr => ∃ (us : List Value) (acc : List (List Int)) (k : Nat), i = .int .i64 (acc.length : Nat) ∧ Hid (SqAt r g C L n hb kind k1 w cb us acc k wr)) (fun i _ _ => n - (intOf i).toNat)
    case atStart => exact ⟨[], [], k1, rfl, HA0⟩
    case round =>
      obtain ⟨us, acc, k, rfl, hA⟩ := hrel
      have HA := Lib.hid hA.out
      clear hA HA0
      have hlen := HA.out.len
      rcases Nat.lt_or_ge acc.length n with hlt | hlt
      · have hrd := HA.out.rd
        obtain ⟨m, hm⟩ : ∃ m, n - acc.length = m + 1 := ⟨n - acc.length - 1, by omega⟩
        have hq := HA.out.q
        rw [hm, rowsR_succ, show m = n - (acc.length + 1) by omega] at hq
        have R1 := RW k acc.length
        have c1 : (acc.length : Int) < (n : Int) := by omega
        have c0 : (0 : Int) ≤ (acc.length : Int) := by omega
        obtain ⟨b3, hbs, hcs, _, _⟩ := HA.out.read hr0 (Kb.refl _ _) hlt
        have B0 := Lib.hid b3
        have HRD := Lib.hid hrd
        obtain ⟨N, hN⟩ : ∃ N, rowR L n acc.length hb k = N := ⟨_, rfl⟩
        rw [hN] at R1 hq
        clear hN hrd hm
        have HQ := Lib.hid hq
        obtain ⟨W0, hW0⟩ : ∃ W0, W0 = wr.drew := ⟨_, rfl⟩
        have HP := Lib.hid (show SqAt r g C L n hb kind k1 w cb us acc k W0 from by rw [hW0]; exact HA.out.drew)
        have hul := HA.out.ul
        have HW0 := Lib.hid hW0
        clear hW0
        clear hq
        go_wp2_with fail
        have ok : (planSq r cb n acc.length kind hb).ok = true := rfl
        refine region_inv (Inv := fun lq_ aq_ wr => ∃ (e : Nat → Bool) (t : Nat → Value), lq_ = #[e 0, e 1, e 2, e 3, e 4, e 5, e 6, e 7, e 8, e 9, e 10, e 11, e 12] ∧ aq_ = ⟨#[.pointer (some ⟨r, 0, none⟩), .int .i64 kind, undef, undef, .pointer (some ⟨w.heap.size, 0, none⟩), .pointer (some ⟨cb + 1, 0, none⟩), .int .i64 (acc.length : Int), .int .i64 kind, .pointer (some ⟨r, 0, none⟩), .int .i64 (n : Int), .slice (some ⟨cb, 0, none⟩) n n, .agg #[.int .i64 kind, .int .i64 0, .slice none 0 0, .slice (some ⟨cb, 0, none⟩) n n, .int .i64 0, .slice none 0 0], .pointer (some ⟨cb + 1, 3, none⟩), .slice (some ⟨cb, 0, none⟩) n n, .int .i64 (n : Int), .int .i64 (acc.length : Int), .bool true, .int .i64 (acc.length : Int), t 18, t 19, t 20, t 21, t 22, t 23, t 24, t 25, t 26, t 27, t 28, t 29, u30, undef], []⟩ ∧ Vals (planSq r cb n acc.length kind hb) e t ∧ Cs 10 12 1 5 28 (fun w_ => w_ = W0) (Sq1 N r g C L n W0) (fun w_ => ∃ us l k2, N = .ok l k2 ∧ SqAt r g C L n hb kind k1 w cb us (acc ++ [l]) k2 w_) e t wr) (by kernel_rfl) ?step ?start ?done
        case start => exact ⟨fun _ => false, fun j => if j = 18 then u18 else if j = 19 then u19 else if j = 20 then u20 else if j = 21 then u21 else if j = 22 then u22 else if j = 23 then u23 else if j = 24 then u24 else if j = 25 then u25 else if j = 26 then u26 else if j = 27 then u27 else if j = 28 then u28 else if j = 29 then u29 else undef, rfl, rfl, Vals.start _ _, Cs.start _ HW0.out.symm⟩
        case step =>
          rintro lq_ aq_ wr ⟨e, t, rfl, rfl, hs, hm⟩ q_ o ho hi ha
          match q_, ho, hi, ha with
          | 0, ho, hi, ha =>
            obtain rfl : _ = o := Option.some.inj ho
            have hi : e 0 = false := hi
            refine wpOp_step (i := 0) rfl (fun K hK => ?_)
            have HK : Shut (∀ a w, _ → K a w) := hK
            clear hK ho
            have HS := Lib.hid hs
            have HM := Lib.hid hm
            have HI := Lib.hid hi
            clear hs ha hm hi
            go_simp
            exact HK.out _ _ ⟨upd e 0 true, upd t 18 _, rfl, rfl, by exact HS.out.put ok (i := 0) rfl, (by exact HM.out.of (by decide) (by decide) (by decide))⟩
          | 1, ho, hi, ha =>
            obtain rfl : _ = o := Option.some.inj ho
            have hi : e 1 = false := hi
            have T0 : t 18 = .pointer (some ⟨cb + 1, 3, none⟩) := hs.val 0 rfl (ha { on := 0, ground := .data } (by simp) rfl)
            have H0 := Lib.hid T0
            have xa_ := hm.load hi (.inl rfl) (B := fun w_ => w_.cell? ⟨cb + 1, 3, none⟩ = some (.slice (some ⟨cb, 0, none⟩) n n) ∧ cb + 1 < w_.heap.size) (fun w_ q => by subst q; exact ⟨HP.out.box.box.c3, HP.out.box.lt⟩) (fun _ w_ q => by obtain ⟨_, _, _, _, _, _, _, _, _, q⟩ := q; exact ⟨(HP.out.read hr0 q hlt).1, (HP.out.read hr0 q hlt).2.1⟩)
            obtain ⟨xb_, xc_⟩ := xa_
            refine wpOp_step (i := 1) rfl (fun K hK => ?_)
            have HK : Shut (∀ a w, _ → K a w) := hK
            clear hK ho
            have HS := Lib.hid hs
            have HM := Lib.hid hm
            have HI := Lib.hid hi
            clear hs ha hm hi
            go_simp
            exact HK.out _ _ ⟨upd e 1 true, upd (upd t 18 _) 19 _, rfl, rfl, by rw [upd_self H0.out]; exact HS.out.put ok (i := 1) rfl, (by rw [upd_self H0.out]; exact HM.out.of (by decide) (by decide) (by decide))⟩
          | 2, ho, hi, ha =>
            obtain rfl : _ = o := Option.some.inj ho
            have hi : e 2 = false := hi
            refine wpOp_step (i := 2) rfl (fun K hK => ?_)
            have HK : Shut (∀ a w, _ → K a w) := hK
            clear hK ho
            have HS := Lib.hid hs
            have HM := Lib.hid hm
            have HI := Lib.hid hi
            clear hs ha hm hi
            go_simp
            exact HK.out _ _ ⟨upd e 2 true, upd t 20 _, rfl, rfl, by exact HS.out.put ok (i := 2) rfl, (by exact HM.out.of (by decide) (by decide) (by decide))⟩
          | 3, ho, hi, ha =>
            obtain rfl : _ = o := Option.some.inj ho
            have hi : e 3 = false := hi
            refine wpOp_step (i := 3) rfl (fun K hK => ?_)
            have HK : Shut (∀ a w, _ → K a w) := hK
            clear hK ho
            have HS := Lib.hid hs
            have HM := Lib.hid hm
            have HI := Lib.hid hi
            clear hs ha hm hi
            go_simp
            exact HK.out _ _ ⟨upd e 3 true, upd t 21 _, rfl, rfl, by exact HS.out.put ok (i := 3) rfl, (by exact HM.out.of (by decide) (by decide) (by decide))⟩
          | 4, ho, hi, ha =>
            obtain rfl : _ = o := Option.some.inj ho
            have hi : e 4 = false := hi
            refine wpOp_step (i := 4) rfl (fun K hK => ?_)
            have HK : Shut (∀ a w, _ → K a w) := hK
            clear hK ho
            have HS := Lib.hid hs
            have HM := Lib.hid hm
            have HI := Lib.hid hi
            clear hs ha hm hi
            go_simp
            exact HK.out _ _ ⟨upd e 4 true, upd t 22 _, rfl, rfl, by exact HS.out.put ok (i := 4) rfl, (by exact HM.out.of (by decide) (by decide) (by decide))⟩
          | 5, ho, hi, ha =>
            obtain rfl : _ = o := Option.some.inj ho
            have hi : e 5 = false := hi
            have T4 : t 22 = .pointer (some ⟨cb + 1, 3, none⟩) := hs.val 4 rfl (ha { on := 4, ground := .data } (by simp) rfl)
            have H4 := Lib.hid T4
            have xa_ := hm.load hi (.inr rfl) (B := fun w_ => w_.cell? ⟨cb + 1, 3, none⟩ = some (.slice (some ⟨cb, 0, none⟩) n n) ∧ cb + 1 < w_.heap.size) (fun w_ q => by subst q; exact ⟨HP.out.box.box.c3, HP.out.box.lt⟩) (fun _ w_ q => by obtain ⟨_, _, _, _, _, _, _, _, _, q⟩ := q; exact ⟨(HP.out.read hr0 q hlt).1, (HP.out.read hr0 q hlt).2.1⟩)
            obtain ⟨xb_, xc_⟩ := xa_
            refine wpOp_step (i := 5) rfl (fun K hK => ?_)
            have HK : Shut (∀ a w, _ → K a w) := hK
            clear hK ho
            have HS := Lib.hid hs
            have HM := Lib.hid hm
            have HI := Lib.hid hi
            clear hs ha hm hi
            go_simp
            exact HK.out _ _ ⟨upd e 5 true, upd (upd t 22 _) 23 _, rfl, rfl, by rw [upd_self H4.out]; exact HS.out.put ok (i := 5) rfl, (by rw [upd_self H4.out]; exact HM.out.of (by decide) (by decide) (by decide))⟩
          | 6, ho, hi, ha =>
            obtain rfl : _ = o := Option.some.inj ho
            have hi : e 6 = false := hi
            have T5 : t 23 = .slice (some ⟨cb, 0, none⟩) n n := hs.val 5 rfl (ha { on := 5, ground := .data } (by simp) rfl)
            have H5 := Lib.hid T5
            refine wpOp_step (i := 6) rfl (fun K hK => ?_)
            have HK : Shut (∀ a w, _ → K a w) := hK
            clear hK ho
            have HS := Lib.hid hs
            have HM := Lib.hid hm
            have HI := Lib.hid hi
            clear hs ha hm hi
            go_simp
            exact HK.out _ _ ⟨upd e 6 true, upd (upd t 23 _) 24 _, rfl, rfl, by rw [upd_self H5.out]; exact HS.out.put ok (i := 6) rfl, (by rw [upd_self H5.out]; exact HM.out.of (by decide) (by decide) (by decide))⟩
          | 7, ho, hi, ha =>
            obtain rfl : _ = o := Option.some.inj ho
            have hi : e 7 = false := hi
            refine wpOp_step (i := 7) rfl (fun K hK => ?_)
            have HK : Shut (∀ a w, _ → K a w) := hK
            clear hK ho
            have HS := Lib.hid hs
            have HM := Lib.hid hm
            have HI := Lib.hid hi
            clear hs ha hm hi
            go_simp
            exact HK.out _ _ ⟨upd e 7 true, upd t 25 _, rfl, rfl, by exact HS.out.put ok (i := 7) rfl, (by exact HM.out.of (by decide) (by decide) (by decide))⟩
          | 8, ho, hi, ha =>
            obtain rfl : _ = o := Option.some.inj ho
            have hi : e 8 = false := hi
            refine wpOp_step (i := 8) rfl (fun K hK => ?_)
            have HK : Shut (∀ a w, _ → K a w) := hK
            clear hK ho
            have HS := Lib.hid hs
            have HM := Lib.hid hm
            have HI := Lib.hid hi
            clear hs ha hm hi
            go_simp
            exact HK.out _ _ ⟨upd e 8 true, upd t 26 _, rfl, rfl, by exact HS.out.put ok (i := 8) rfl, (by exact HM.out.of (by decide) (by decide) (by decide))⟩
          | 9, ho, hi, ha =>
            obtain rfl : _ = o := Option.some.inj ho
            have hi : e 9 = false := hi
            have T8 : t 26 = .int .i64 kind := hs.val 8 rfl (ha { on := 8, ground := .data } (by simp) rfl)
            have H8 := Lib.hid T8
            refine wpOp_step (i := 9) rfl (fun K hK => ?_)
            have HK : Shut (∀ a w, _ → K a w) := hK
            clear hK ho
            have HS := Lib.hid hs
            have HM := Lib.hid hm
            have HI := Lib.hid hi
            clear hs ha hm hi
            go_simp
            exact HK.out _ _ ⟨upd e 9 true, upd (upd t 26 _) 27 _, rfl, rfl, by rw [upd_self H8.out]; exact HS.out.put ok (i := 9) rfl, (by rw [upd_self H8.out]; exact HM.out.of (by decide) (by decide) (by decide))⟩
          | 10, ho, hi, ha =>
            obtain rfl : _ = o := Option.some.inj ho
            have hi : e 10 = false := hi
            have T3 : t 21 = .pointer (some ⟨r, 0, none⟩) := hs.val 3 rfl (ha { on := 3, ground := .data } (by simp) rfl)
            have T6 : t 24 = .int .i64 (n : Int) := hs.val 6 rfl (ha { on := 6, ground := .data } (by simp) rfl)
            have T7 : t 25 = .int .i64 (acc.length : Int) := hs.val 7 rfl (ha { on := 7, ground := .data } (by simp) rfl)
            have T9 : t 27 = .bool hb := hs.val 9 rfl (ha { on := 9, ground := .data } (by simp) rfl)
            have H3 := Lib.hid T3
            have H6 := Lib.hid T6
            have H7 := Lib.hid T7
            have H9 := Lib.hid T9
            obtain rfl := hm.p0 hi
            have CL_ := R1 _ HP.out.rd
            refine wpOp_step (i := 10) rfl (fun K hK => ?_)
            have HK : Shut (∀ a w, _ → K a w) := hK
            clear hK ho
            have HS := Lib.hid hs
            have HM := Lib.hid hm
            have HI := Lib.hid hi
            clear hs ha hm hi
            go_simp
            (with_reducible refine CL_.mono ?_)
            intro e' w' hT
            cases N with
            | no j er =>
              obtain ⟨rfl, kb⟩ := hT
              go_wp2_with fail
              rw [← show Rd.no j er = R from (congrArg (·.nx F) HQ.out).trans HR.out]
              exact ⟨rfl, rfl, HP.out.kb.trans kb⟩
            | ok l k2 =>
              obtain ⟨v_, rfl, ⟨B, hB1, rfl, hB2, hB3⟩, h1, kb⟩ := hT
              go_wp2_with fail
              exact HK.out _ _ ⟨upd e 10 true, upd (upd (upd (upd (upd t 21 _) 24 _) 25 _) 27 _) 28 _, rfl, rfl, by rw [upd_self H3.out, upd_self H6.out, upd_self H7.out, upd_self H9.out]; exact HS.out.skip' (i := 10) rfl rfl, (by rw [upd_self H3.out, upd_self H6.out, upd_self H7.out, upd_self H9.out]; exact HM.out.call HI.out (by decide) ⟨B, l, k2, rfl, hB1, rfl, hB2, hB3, h1, kb⟩)⟩
          | 11, ho, hi, ha =>
            obtain rfl : _ = o := Option.some.inj ho
            have hi : e 11 = false := hi
            have T1 : t 19 = .slice (some ⟨cb, 0, none⟩) n n := hs.val 1 rfl (ha { on := 1, ground := .data } (by simp) rfl)
            have H1 := Lib.hid T1
            have T2 : t 20 = .int .i64 (acc.length : Int) := hs.val 2 rfl (ha { on := 2, ground := .data } (by simp) rfl)
            have H2 := Lib.hid T2
            refine wpOp_step (i := 11) rfl (fun K hK => ?_)
            have HK : Shut (∀ a w, _ → K a w) := hK
            clear hK ho
            have HS := Lib.hid hs
            have HM := Lib.hid hm
            have HI := Lib.hid hi
            clear hs ha hm hi
            go_simp
            exact HK.out _ _ ⟨upd e 11 true, upd (upd (upd t 19 _) 20 _) 29 _, rfl, rfl, by rw [upd_self H1.out, upd_self H2.out]; exact HS.out.put ok (i := 11) rfl, (by rw [upd_self H1.out, upd_self H2.out]; exact HM.out.of (by decide) (by decide) (by decide))⟩
          | 12, ho, hi, ha =>
            obtain rfl : _ = o := Option.some.inj ho
            have hi : e 12 = false := hi
            have T11 : t 29 = .pointer (some ⟨cb, acc.length, none⟩) := hs.val 11 rfl (ha { on := 11, ground := .data } (by simp) rfl)
            have H11 := Lib.hid T11
            have d10 : Hid (e 10 = true) := ha { on := 10, ground := .data } (by simp) rfl
            have d1 : Hid (e 1 = true) := ha { on := 1, ground := .phase } (by simp) rfl
            have d5 : Hid (e 5 = true) := ha { on := 5, ground := .phase } (by simp) rfl
            have hA1 := hm.p1 d10.out hi
            obtain ⟨B, l, k2, hN, hB1, T28, hB2, hB3, h1, kb⟩ := hA1
            subst hN
            have H28 := Lib.hid T28
            obtain ⟨_, _, cl_, rc_, rf_⟩ := HP.out.read hr0 kb hlt
            have HNX := Lib.hid (HP.out.next hr0 hg0 kb h1 hn2 hlt hB1 hB2 hB3 HQ.out)
            clear h1 hB1 hB2 hB3 kb
            refine wpOp_step (i := 12) rfl (fun K hK => ?_)
            have HK : Shut (∀ a w, _ → K a w) := hK
            clear hK ho
            have HS := Lib.hid hs
            have HM := Lib.hid hm
            have HI := Lib.hid hi
            clear hs ha hm hi
            go_simp
            exact HK.out _ _ ⟨upd e 12 true, (upd (upd t 29 _) 28 _), rfl, rfl, by rw [upd_self H11.out, upd_self H28.out]; exact HS.out.skip (i := 12) rfl, (by rw [upd_self H11.out, upd_self H28.out]; exact HM.out.st d10.out d1.out d5.out (by decide) (by decide) (by decide) ⟨_, l, k2, rfl, HNX.out⟩)⟩
          | k + 13, ho, hi, ha => simp at ho
        case done =>
          rintro lq_ aq_ wr ⟨e, t, rfl, rfl, hs, hm⟩ hr
          have hd := ready_done hr rfl (by decide +kernel)
          have E : Hid (∃ us l k2, N = .ok l k2 ∧ SqAt r g C L n hb kind k1 w cb us (acc ++ [l]) k2 wr) := hm.p2 (hd 12 (by decide))
          clear hd hr hs ok hm HP
          generalize t 18 = t18, t 19 = t19, t 20 = t20, t 21 = t21, t 22 = t22, t 23 = t23, t 24 = t24, t 25 = t25, t 26 = t26, t 27 = t27, t 28 = t28, t 29 = t29 at *
          go_wp2
          obtain ⟨us', l, k2, _, hE⟩ := E.out
          exact ⟨⟨us', acc ++ [l], k2, by simp, hE⟩, by simp [intOf]; omega⟩
      · obtain hlen2 : acc.length = n := by omega
        have hq := HA.out.q
        rw [hlen2, Nat.sub_self] at hq
        have hq2 : Rd.ok acc k = rowsR L n hb n [] k1 := hq
        have HRR := Lib.hid (show Rd.ok (⟨kind, 0, [], acc, 0, []⟩ : In) k = R from (HF.out acc k).symm.trans ((congrArg (·.nx F) hq2).trans HR.out))
        have hcell := HA.out.cells
        rw [hlen2, Nat.sub_self, List.replicate_zero, List.append_nil] at hcell
        have HC := Lib.hid hcell
        obtain ⟨d0, d1, d2, d3, d4, d5⟩ := HA.out.box.box
        obtain ⟨e0, e1, e2, e3, e4, e5⟩ := HA.out.res.box
        have f := HA.out.res.free
        have f0 := f 0
        have f1 := f 1
        have f2 := f 2
        have f3 := f 3
        have f4 := f 4
        have f5 := f 5
        have hne := Lib.hid HA.out.ib0
        have hle2 : ¬ (acc.length : Int) < (n : Int) := by omega
        clear f hq hq2 hcell
        go_wp2
        refine bodyPost_ret (v := inV ⟨kind, 0, [], acc, 0, []⟩ (.slice none 0 0) (.slice (some ⟨cb, 0, none⟩) n n) (.slice none 0 0)) (by simp [results, Tryz.results83, go_sem, inV, e0, e1, e2, e3, e4, e5]) rfl ?_
        rw [← HRR.out, tells_ok]
        have hn0 := hne.out
        refine ⟨_, rfl, ins_rows (t := 68) (cb := cb) (us := us) ?_ (by omega) HA.out.ul hlen2 hn2 (fun i q v a b => ?_), HA.out.rd.set6 (by omega) (by omega), HA.out.kb.set6 (Nat.le_refl _)⟩
        · exact ((held_set6 (b := w.heap.size) (F := fun q => q = cb) (fun q hq => by omega)).2 cb rfl (Array.getElem?_eq_some_iff.1 HC.out).1).trans HC.out
        · exact Lies.imp ((HA.out.rows i q v a b).held (held_set6 (b := w.heap.size) (fun q hq => by omega))) (fun q hq => by omega)
end Go.Proofs.YtbadingdklenhaaGreatDoor
