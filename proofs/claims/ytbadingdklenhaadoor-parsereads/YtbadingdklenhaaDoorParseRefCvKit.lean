/-
  What stands in memory while the document's cover reads sets.
-/
import Derived.Test.YtbadingdklenhaaDoorParseRefSq
namespace Go.Proofs.YtbadingdklenhaaDoor
set_option maxRecDepth 100000
open Go.RowKit

theorem infoDs : (Tryd.prog.info? 65).map (fun i => (i.zero, i.size, i.bytes)) = some (some (.agg #[.int .i64 0, .slice none 0 0]), 2, 32) := by kernel_rfl
/-- What stands while the document's cover reads sets. -/
structure RCv (sb g C : Nat) (L : List Tk) (z : Int) (F : List (Int × List Int) → Nat → Rd In) (R : Rd In) (w : World) (va : Value) (S : List (Int × List Int)) (us : List Value) (q : Nat × Nat) (wr : World) : Prop where
  mk ::
  res : IBlk w.heap.size 36 (.int .i64 0) (.int .i64 0) (.slice none 0 0) (.slice none 0 0) (.int .i64 0) (.slice none 0 0) wr
  box : IBlk (w.heap.size + 1) 36 (.int .i64 3) (.int .i64 0) (.slice none 0 0) (.slice none 0 0) (.int .i64 z) va wr
  own : wr.ownsRow (w.heap.size + 2) 65 2 va S.length (flS S us)
  ul : us.length = S.length
  rows : ∀ (i : Nat) (s : Int × List Int) v, S[i]? = some s → us[i]? = some v → Ints (CvF (w.heap.size + 1) va) wr v s.2
  st : St sb g C L q wr
  kb : Kb sb w wr
  alt : Alt (fun k => (setsG L z S k).nx F) R q
  len : S.length ≤ 4096 ∨ (S.length ≤ 4097 ∧ q.2 ≠ 0)
/-- What stands while a set is read, since the world wo; its variable is the block behind. -/
structure REl (sb g C : Nat) (L : List Tk) (wo : World) (c : Int) (ve : Value) (l : List Int) (q : Nat × Nat) (wr : World) : Prop where
  mk ::
  own : wr.ownsRow (wo.heap.size + 1) 3 1 ve l.length (nl l)
  blk : wr.heap[wo.heap.size]? = some (.cells #[.int .i64 c, ve] 65 (0, 0))
  st : St sb g C L q wr
  kb : Kb sb wo wr
section
variable {sb g C : Nat} {L : List Tk} {z : Int} {F : List (Int × List Int) → Nat → Rd In} {R : Rd In} {w : World} {va : Value} {S : List (Int × List Int)} {us : List Value} {q q' : Nat × Nat} {wr w' w8 wo w1 : World} {c : Int} {ve : Value} {l : List Int}
theorem RCv.kb' (h : RCv sb g C L z F R w va S us q wr) (hs : sb < w.heap.size) (kb : Kb sb wr w') : IBlk w.heap.size 36 (.int .i64 0) (.int .i64 0) (.slice none 0 0) (.slice none 0 0) (.int .i64 0) (.slice none 0 0) w' ∧ IBlk (w.heap.size + 1) 36 (.int .i64 3) (.int .i64 0) (.slice none 0 0) (.slice none 0 0) (.int .i64 z) va w' ∧ w'.ownsRow (w.heap.size + 2) 65 2 va S.length (flS S us) ∧ (∀ (i : Nat) (s : Int × List Int) v, S[i]? = some s → us[i]? = some v → Ints (CvF (w.heap.size + 1) va) w' v s.2) ∧ Kb sb w w' :=
  ⟨h.res.kb kb (by omega), h.box.kb kb (by omega), kb.own (by omega) h.own, fun i s v a b => (h.rows i s v a b).held (kb.held (fun q hq => by have := hq.1; omega)), h.kb.trans kb⟩
theorem RCv.step (h : RCv sb g C L z F R w va S us q wr) (hs0 : sb < w.heap.size) (hg0 : g < w.heap.size) (kb0 : Kb sb wr wo) (hr : REl sb g C L wo c ve l q' w') (hal : Alt (fun k1 => (setsG L z (S ++ [(c, l)]) k1).nx F) R q') (hlen : (S ++ [(c, l)]).length ≤ 4096 ∨ ((S ++ [(c, l)]).length ≤ 4097 ∧ q'.2 ≠ 0))
    {g' cap' : Nat} (ho : w8.ownsRow (w.heap.size + 2) 65 2 (.slice (some ⟨g', 0, none⟩) (S.length + 1) cap') (S.length + 1) (flS S us ++ [.int .i64 c, ve])) (hgr : (w'.alloc (.cells #[.int .i64 c, ve] 65)).grownBy w8 va.ownBlock) (hat : va.ownBlock = some g' ∨ g' = (w'.alloc (.cells #[.int .i64 c, ve] 65)).heap.size) :
    RCv sb g C L z F R w (.slice (some ⟨g', 0, none⟩) (S.length + 1) cap') (S ++ [(c, l)]) (us ++ [ve]) q' (w8.setCell ⟨w.heap.size + 1, 5, none⟩ (.slice (some ⟨g', 0, none⟩) (S.length + 1) cap')) := by
  obtain ⟨r1, b1, o1, rw1, k1⟩ := h.kb' hs0 (kb0.trans hr.kb)
  have hrow : ∀ k, va.ownBlock = some k → w.heap.size + 2 ≤ k := fun k hk => (h.own.lt k hk).1
  have hrowlt : ∀ k, va.ownBlock = some k → k < wr.heap.size := fun k hk => (h.own.lt k hk).2
  have hwo := kb0.size
  have nb := new_below w' (.cells #[.int .i64 c, ve] 65)
  have r2 := r1.next nb
  have b2 := b1.next nb
  have hvr : Ints (CvF (w.heap.size + 1) va) w' ve l := Lies.imp (lies_of_own hr.own) (fun x hx => by
    have h1 := (hr.own.lt x hx).1
    have h2 := h.box.lt
    exact ⟨by omega, fun e => by have := hrowlt x e; omega⟩)
  have up : ∀ {v : Value} {m : List Int}, Ints (CvF (w.heap.size + 1) va) w' v m → Ints (CvF (w.heap.size + 1) (.slice (some ⟨g', 0, none⟩) (S.length + 1) cap')) (w8.setCell ⟨w.heap.size + 1, 5, none⟩ (.slice (some ⟨g', 0, none⟩) (S.length + 1) cap')) v m := fun {v m} x => by
    have x1 : Ints (fun y => CvF (w.heap.size + 1) va y ∧ y < (w'.alloc (.cells #[.int .i64 c, ve] 65)).heap.size) (w'.alloc (.cells #[.int .i64 c, ve] 65)) v m := Lies.lts (x.next nb)
    refine Lies.imp ((x1.held (grown_held hgr (fun b hb => hb.1.2))).held (set_held (a := ⟨w.heap.size + 1, 5, none⟩) (fun y hy => Nat.ne_of_gt hy.1.1))) (fun y hy => ⟨hy.1.1, fun e => ?_⟩)
    have e2 : g' = y := by simpa [Value.ownBlock] using e
    subst e2
    rcases hat with h1 | h1
    · exact hy.1.2 h1
    · have := hy.2; omega
  refine ⟨(r2.keep (hgr.block _ r2.lt (fun e => by have := hrow _ e.symm; omega))).other (a := ⟨w.heap.size + 1, 5, none⟩) (show w.heap.size ≠ w.heap.size + 1 by omega) _, (b2.keep (hgr.block _ b2.lt (fun e => by have := hrow _ e.symm; omega))).set5 _, ?_, by simp [h.ul], fun i s v a b => ?_, ((hr.st.next nb).grown hgr (B := w.heap.size + 2) ⟨by omega, by omega⟩ hrow).other (a := ⟨w.heap.size + 1, 5, none⟩) (show w.heap.size + 1 ≠ sb by omega) (show w.heap.size + 1 ≠ g by omega) _, ((k1.next nb).grown hgr (fun k hk => by have := hrow k hk; omega)).new (a := ⟨w.heap.size + 1, 5, none⟩) (show w.heap.size ≤ w.heap.size + 1 by omega) _, hal, hlen⟩
  · rw [List.length_append, List.length_singleton, flS_append h.ul]
    exact ownsRow_setCell_below (a := ⟨w.heap.size + 1, 5, none⟩) ho (show w.heap.size + 1 < w.heap.size + 2 by omega) _
  · have hul := h.ul
    rcases Nat.lt_or_ge i S.length with hi | hi
    · rw [List.getElem?_append_left hi] at a
      rw [List.getElem?_append_left (by omega)] at b
      exact up (rw1 i s v a b)
    · have hi2 : i = S.length := by
        have := (List.getElem?_eq_some_iff.1 a).1
        simp at this
        omega
      subst hi2
      rw [List.getElem?_append_right (Nat.le_refl _), Nat.sub_self] at a
      rw [← hul, List.getElem?_append_right (Nat.le_refl _), Nat.sub_self] at b
      obtain rfl : (c, l) = s := by simpa using a
      obtain rfl : ve = v := by simpa using b
      exact up hvr
/-- One element more. -/
theorem REl.step {g' cap' k2 : Nat} {n : Int} (h : REl sb g C L wo c ve l (q.1, 0) wr) (hs0 : sb < wo.heap.size) (hg0 : g < wo.heap.size) (hb : Below wr.heap.size wr w1) (hk : k2 < L.length)
    (ho : w8.ownsRow (wo.heap.size + 1) 3 1 (.slice (some ⟨g', 0, none⟩) (l.length + 1) cap') (l.length + 1) (nl l ++ [.int .i64 n])) (hgr : (w1.alloc (.cells #[.int .i64 n] 3)).grownBy w8 ve.ownBlock) :
    REl sb g C L wo c (.slice (some ⟨g', 0, none⟩) (l.length + 1) cap') (l ++ [n]) (k2, 0) ((w8.setCell ⟨wo.heap.size, 1, none⟩ (.slice (some ⟨g', 0, none⟩) (l.length + 1) cap')).setCell ⟨sb, 1, none⟩ (.int .i64 (k2 : Nat))) := by
  have hrow : ∀ k, ve.ownBlock = some k → wo.heap.size + 1 ≤ k := fun k hk => (h.own.lt k hk).1
  have nb := new_below w1 (.cells #[.int .i64 n] 3)
  have hst := ((h.st.next hb).next nb).grown hgr (B := wo.heap.size + 1) ⟨by omega, by omega⟩ hrow
  have hkb := ((h.kb.next hb).next nb).grown hgr (fun k hk => by have := hrow k hk; omega)
  have hbl := lt_of_block h.blk
  have hbk : w8.heap[wo.heap.size]? = some (.cells #[.int .i64 c, ve] 65 (0, 0)) := by
    refine (hgr.block _ (by have := hb.size; simp; omega) (fun e => by have := hrow _ e.symm; omega)).trans ?_
    exact (nb.block _ (by have := hb.size; omega)).trans ((hb.block _ hbl).trans h.blk)
  have hb1 := heap_setCell_same w8 wo.heap.size 1 _ _ (.slice (some ⟨g', 0, none⟩) (l.length + 1) cap') hbk
  refine ⟨?_, (Below.heap_setCell _ ⟨sb, 1, none⟩ _ _ (show wo.heap.size ≠ sb by omega)).trans hb1, (hst.other (a := ⟨wo.heap.size, 1, none⟩) (show wo.heap.size ≠ sb by omega) (show wo.heap.size ≠ g by omega) _).goes hk, (hkb.new (a := ⟨wo.heap.size, 1, none⟩) (Nat.le_refl _) _).store (a := ⟨sb, 1, none⟩) rfl _⟩
  rw [List.length_append, List.length_singleton, nl_append]
  exact ownsRow_setCell_below (a := ⟨sb, 1, none⟩) (ownsRow_setCell_below (a := ⟨wo.heap.size, 1, none⟩) ho (show wo.heap.size < wo.heap.size + 1 by omega) _) (show sb < wo.heap.size + 1 by omega) _
end
/-- Elements go on as the document asks. -/
theorem elemsG_at {L : List Tk} (hE : EndL L) {z last : Int} {l : List Int} {k : Nat} {x : Tk} (hx : L[k]? = some x) : elemsG L z (last + 1) l k = if x.kind = 1 then (if last < x.n ∧ x.n < z then elemsG L z (x.n + 1) (l ++ [x.n]) (k + 1) else .no k 4) else .ok l k := by
  rw [elemsG_eq hE z (last + 1) l (List.getElem?_eq_some_iff.1 hx).1]
  have h1 : isN L k = decide (x.kind = 1) := by unfold isN; rw [hx]
  rw [h1]
  by_cases hc : x.kind = 1
  · rw [if_pos (by simp [hc]), if_pos hc]
    by_cases hr : last < x.n ∧ x.n < z
    · have e1 : numR L (last + 1) (z - 1) 4 k = .ok x.n (k + 1) := by unfold numR; rw [hx]; simp only; rw [if_pos hc, if_pos (by omega)]
      rw [e1, if_pos hr]
      rfl
    · have e1 : numR L (last + 1) (z - 1) 4 k = .no k 4 := by unfold numR; rw [hx]; simp only; rw [if_pos hc, if_neg (by omega)]
      rw [e1, if_neg hr]
      rfl
  · rw [if_neg (by simp [hc]), if_neg hc]
end Go.Proofs.YtbadingdklenhaaDoor
