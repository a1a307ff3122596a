/-
  What the document's square does with tokens.
-/
import Derived.Test.YtbadingdklenhaaDoorParseRefKnap
import Derived.Test.YtbadingdklenhaaDoorParseCoverKit
namespace Go.Proofs.YtbadingdklenhaaDoor
set_option maxRecDepth 100000
open Go.RowKit

/-- What stands while the document's square reads rows. -/
structure RSq (sb g C : Nat) (L : List Tk) (N : Nat) (hb : Bool) (F : List (List Int) → Nat → Rd In) (R : Rd In) (kind : Int) (w : World) (va : Value) (us : List Value) (acc : List (List Int)) (q : Nat × Nat) (wr : World) : Prop where
  mk ::
  res : IBlk w.heap.size 36 (.int .i64 0) (.int .i64 0) (.slice none 0 0) (.slice none 0 0) (.int .i64 0) (.slice none 0 0) wr
  box : IBlk (w.heap.size + 1) 36 (.int .i64 kind) (.int .i64 0) (.slice none 0 0) va (.int .i64 0) (.slice none 0 0) wr
  own : wr.ownsRow (w.heap.size + 2) 88 1 va acc.length us
  ul : us.length = acc.length
  rows : ∀ (i : Nat) r v, acc[i]? = some r → us[i]? = some v → Ints (CvF (w.heap.size + 1) va) wr v r
  st : St sb g C L q wr
  kb : Kb sb w wr
  alt : Alt (fun k => (rowsR L N hb (N - acc.length) acc k).nx F) R q
  len : acc.length ≤ N
/-- What stands while a row is read, since the world wo. -/
structure RRw (sb g C : Nat) (L : List Tk) (N : Nat) (hb : Bool) (F : List (List Int) → Nat → Rd In) (R : Rd In) (acc : List (List Int)) (wo : World) (vr : Value) (row : List Int) (q : Nat × Nat) (wr : World) : Prop where
  mk ::
  own : wr.ownsRow wo.heap.size 2 1 vr row.length (nl row)
  st : St sb g C L q wr
  kb : Kb sb wo wr
  alt : Alt (fun k => (cellsR L acc.length hb (N - row.length) row k).nx fun r k1 => (rowsR L N hb (N - (acc.length + 1)) (acc ++ [r]) k1).nx F) R q
  len : row.length ≤ N
section
variable {sb g C : Nat} {L : List Tk} {N : Nat} {hb : Bool} {F : List (List Int) → Nat → Rd In} {R : Rd In} {kind : Int} {w : World} {va : Value} {us : List Value} {acc : List (List Int)} {q q' : Nat × Nat} {wr w' w8 : World}
/-- All but the reader, in a later world. -/
theorem RSq.kb' (h : RSq sb g C L N hb F R kind w va us acc q wr) (hs : sb < w.heap.size) (kb : Kb sb wr w') : IBlk w.heap.size 36 (.int .i64 0) (.int .i64 0) (.slice none 0 0) (.slice none 0 0) (.int .i64 0) (.slice none 0 0) w' ∧ IBlk (w.heap.size + 1) 36 (.int .i64 kind) (.int .i64 0) (.slice none 0 0) va (.int .i64 0) (.slice none 0 0) w' ∧ w'.ownsRow (w.heap.size + 2) 88 1 va acc.length us ∧ (∀ (i : Nat) r v, acc[i]? = some r → us[i]? = some v → Ints (CvF (w.heap.size + 1) va) w' v r) ∧ Kb sb w w' :=
  ⟨h.res.kb kb (by omega), h.box.kb kb (by omega), kb.own (by omega) h.own, fun i r v a b => (h.rows i r v a b).held (kb.held (fun q hq => by have := hq.1; omega)), h.kb.trans kb⟩
theorem RSq.step (h : RSq sb g C L N hb F R kind w va us acc q wr) (hs0 : sb < w.heap.size) (hg0 : g < w.heap.size) {wo : World} (kb0 : Kb sb wr wo) {vr : Value} {row : List Int} (hr : RRw sb g C L N hb F R acc wo vr row q' w') (hlt : acc.length < N) (hal : Alt (fun k1 => (rowsR L N hb (N - (acc.length + 1)) (acc ++ [row]) k1).nx F) R q')
    {g' cap' : Nat} (ho : w8.ownsRow (w.heap.size + 2) 88 1 (.slice (some ⟨g', 0, none⟩) (acc.length + 1) cap') (acc.length + 1) (us ++ [vr])) (hgr : (w'.alloc (.cells #[vr] 88)).grownBy w8 va.ownBlock) (hat : va.ownBlock = some g' ∨ g' = (w'.alloc (.cells #[vr] 88)).heap.size) :
    RSq sb g C L N hb F R kind w (.slice (some ⟨g', 0, none⟩) (acc.length + 1) cap') (us ++ [vr]) (acc ++ [row]) q' (w8.setCell ⟨w.heap.size + 1, 3, none⟩ (.slice (some ⟨g', 0, none⟩) (acc.length + 1) cap')) := by
  obtain ⟨r1, b1, o1, rw1, k1⟩ := h.kb' hs0 (kb0.trans hr.kb)
  have hrow : ∀ k, va.ownBlock = some k → w.heap.size + 2 ≤ k := fun k hk => (h.own.lt k hk).1
  have hrowlt : ∀ k, va.ownBlock = some k → k < wr.heap.size := fun k hk => (h.own.lt k hk).2
  have hwo := kb0.size
  have nb := new_below w' (.cells #[vr] 88)
  have r2 := r1.next nb
  have b2 := b1.next nb
  have hvr : Ints (CvF (w.heap.size + 1) va) w' vr row := Lies.imp (lies_of_own hr.own) (fun x hx => by
    have h1 := (hr.own.lt x hx).1
    have h2 := h.box.lt
    exact ⟨by omega, fun e => by have := hrowlt x e; omega⟩)
  have up : ∀ {v : Value} {m : List Int}, Ints (CvF (w.heap.size + 1) va) w' v m → Ints (CvF (w.heap.size + 1) (.slice (some ⟨g', 0, none⟩) (acc.length + 1) cap')) (w8.setCell ⟨w.heap.size + 1, 3, none⟩ (.slice (some ⟨g', 0, none⟩) (acc.length + 1) cap')) v m := fun {v m} x => by
    have x1 : Ints (fun y => CvF (w.heap.size + 1) va y ∧ y < (w'.alloc (.cells #[vr] 88)).heap.size) (w'.alloc (.cells #[vr] 88)) v m := Lies.lts (x.next nb)
    refine Lies.imp ((x1.held (grown_held hgr (fun b hb => hb.1.2))).held (set_held (a := ⟨w.heap.size + 1, 3, none⟩) (fun y hy => Nat.ne_of_gt hy.1.1))) (fun y hy => ⟨hy.1.1, fun e => ?_⟩)
    have e2 : g' = y := by simpa [Value.ownBlock] using e
    subst e2
    rcases hat with h1 | h1
    · exact hy.1.2 h1
    · have := hy.2; omega
  refine ⟨(r2.keep (hgr.block _ r2.lt (fun e => by have := hrow _ e.symm; omega))).other (a := ⟨w.heap.size + 1, 3, none⟩) (show w.heap.size ≠ w.heap.size + 1 by omega) _, (b2.keep (hgr.block _ b2.lt (fun e => by have := hrow _ e.symm; omega))).set3 _, ?_, by simp [h.ul], fun i r v a b => ?_, ((hr.st.next nb).grown hgr (B := w.heap.size + 2) ⟨by omega, by omega⟩ hrow).other (a := ⟨w.heap.size + 1, 3, none⟩) (show w.heap.size + 1 ≠ sb by omega) (show w.heap.size + 1 ≠ g by omega) _, ((k1.next nb).grown hgr (fun k hk => by have := hrow k hk; omega)).new (a := ⟨w.heap.size + 1, 3, none⟩) (show w.heap.size ≤ w.heap.size + 1 by omega) _, ?_, by simp; omega⟩
  · rw [List.length_append, List.length_singleton]
    exact ownsRow_setCell_below (a := ⟨w.heap.size + 1, 3, none⟩) ho (show w.heap.size + 1 < w.heap.size + 2 by omega) _
  · have hul := h.ul
    rcases Nat.lt_or_ge i acc.length with hi | hi
    · rw [List.getElem?_append_left hi] at a
      rw [List.getElem?_append_left (by omega)] at b
      exact up (rw1 i r v a b)
    · have hi2 : i = acc.length := by
        have := (List.getElem?_eq_some_iff.1 a).1
        simp at this
        omega
      subst hi2
      rw [List.getElem?_append_right (Nat.le_refl _), Nat.sub_self] at a
      rw [← hul, List.getElem?_append_right (Nat.le_refl _), Nat.sub_self] at b
      obtain rfl : row = r := by simpa using a
      obtain rfl : vr = v := by simpa using b
      exact up hvr
  · rw [List.length_append, List.length_singleton]; exact hal
theorem RRw.step {wo : World} {vr : Value} {row : List Int} {g' cap' : Nat} {w1 : World} {c : Int} (h : RRw sb g C L N hb F R acc wo vr row q wr) (hs0 : sb < wo.heap.size) (hg0 : g < wo.heap.size) (kb : Kb sb wr w1) (h1 : St sb g C L q' w1) (hlt : row.length < N) (hal : Alt (fun k => (cellsR L acc.length hb (N - (row.length + 1)) (row ++ [c]) k).nx fun r k1 => (rowsR L N hb (N - (acc.length + 1)) (acc ++ [r]) k1).nx F) R q')
    (ho : w8.ownsRow wo.heap.size 2 1 (.slice (some ⟨g', 0, none⟩) (row.length + 1) cap') (row.length + 1) (nl row ++ [.int .i64 c])) (hgr : (w1.alloc (.cells #[.int .i64 c] 2)).grownBy w8 vr.ownBlock) : RRw sb g C L N hb F R acc wo (.slice (some ⟨g', 0, none⟩) (row.length + 1) cap') (row ++ [c]) q' w8 := by
  have hrow : ∀ k, vr.ownBlock = some k → wo.heap.size ≤ k := fun k hk => (h.own.lt k hk).1
  have nb := new_below w1 (.cells #[.int .i64 c] 2)
  refine ⟨?_, (h1.next nb).grown hgr (B := wo.heap.size) ⟨hs0, hg0⟩ hrow, ((h.kb.trans kb).next nb).grown hgr hrow, ?_, by simp; omega⟩
  · rw [List.length_append, List.length_singleton, nl_append]; exact ho
  · rw [List.length_append, List.length_singleton]; exact hal
end
theorem one_headP (A : Option Addr) (n C : Nat) : ∀ u ∈ [Value.slice A n C], u.oneCell' = true := by
  intro u hu
  simp at hu
  rw [hu]; rfl
theorem one_int (c : Int) : ∀ u ∈ [Value.int .i64 c], u.oneCell' = true := by
  intro u hu
  simp at hu
  rw [hu]; rfl
end Go.Proofs.YtbadingdklenhaaDoor
