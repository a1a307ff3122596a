/-
  A heap of either kind and the document's list of the same entries (DeheapPlays, layer 7): what each act keeps.
-/
import Derived.Test.YtiighhcilgjebaaDeDocs
import Derived.Test.YtiighhcilgjebaaRefPop
namespace Go.Proofs.Ytiighhcilgjebaa
set_option maxRecDepth 100000
open Go.RowKit Go.Sort

theorem DocL.keptB {w w' : World} {v : Value} {l : List En} (h : DocL w v l) (hk : 0 < l.length → ∀ b, v.ownBlock = some b → w'.heap[b]? = w.heap[b]?) : DocL w' v l := by
  obtain ⟨p, c, rfl, h2, h3⟩ := h.at_
  refine ⟨p, c, rfl, h2, fun h0 => ?_⟩
  obtain ⟨b, off, rfl, ⟨cur, f, q2⟩, q3⟩ := h3 h0
  have e := hk h0 b rfl
  refine ⟨b, off, rfl, ⟨cur, f, by rw [e]; exact q2⟩, fun i hi => ?_⟩
  have c : ∀ o, w'.cell? ⟨b, o, none⟩ = w.cell? ⟨b, o, none⟩ := fun o => World.cell?_of_block (by exact e)
  rw [c, c, c, c]
  exact q3 i hi
theorem DocL.lt {w : World} {v : Value} {l : List En} (h : DocL w v l) (h0 : 0 < l.length) (q : Nat) (hq : v.ownBlock = some q) : q < w.heap.size := by
  obtain ⟨p, c, rfl, h2, h3⟩ := h.at_
  obtain ⟨b, off, rfl, ⟨cur, f, q2⟩, q3⟩ := h3 h0
  simp [Value.ownBlock] at hq
  subst hq
  exact (Array.getElem?_eq_some_iff.1 q2).1
theorem ins_srt {m : List En} (x : En) (h : Srt m) : insE x m = srt (m ++ [x]) := by
  have e : m = srt m := srt_unique (List.Perm.refl _) h
  rw [e, insE_eq, ← e]
  exact srt_perm_eq (List.perm_append_comm (l₁ := [x]) (l₂ := m))
theorem rpopD {up : Bool} {m : List En} (hl : m.length ≤ 1000) (v : Value) (w : World) (h : DocL w v m) : Calls Try.prog 28 #[v, .bool up] w (IsOut v (hdE up m) (tlE up m) w) := by
  by_cases h0 : m = []
  · subst h0
    cases up
    · exact rpop_none w v false h
    · exact rpop_none w v true h
  · cases up
    · obtain ⟨x, r, rfl⟩ := List.exists_cons_of_ne_nil h0
      exact rpop_first r x (by simp at hl; omega) v w h
    · obtain ⟨r, x, rfl⟩ := (List.eq_nil_or_concat m).resolve_left h0
      rw [List.concat_eq_append] at h hl ⊢
      rw [hdE_snoc, tlE_snoc]
      exact rpop_last r x (by simp at hl; omega) v w h
theorem Srt.tl {m : List En} (h : Srt m) (up : Bool) : Srt (tlE up m) := by
  unfold Srt at *
  cases up
  · exact h.sublist (List.tail_sublist _)
  · exact h.sublist (List.dropLast_sublist _)
theorem tlE_length (up : Bool) (m : List En) : (tlE up m).length = m.length - 1 := by cases up <;> simp [tlE]

/-- A heap and the document's list v of its entries m. -/
structure Ply (w0 : World) (db : Nat) (k : Bool) (m : List En) (v : Value) (F : Nat → Prop) (wr : World) : Prop where
  mk ::
  de : De wr F db k m 25
  dl : DocL wr v m
  sep : 0 < m.length → ∀ q, v.ownBlock = some q → ¬ F q
  ge : ∀ b, F b → w0.heap.size ≤ b
  be : Below w0.heap.size w0 wr
  st : Srt m
  len : m.length ≤ 25
namespace Ply
variable {w0 wr w' : World} {db : Nat} {k : Bool} {m m' : List En} {v v' : Value} {F F' : Nat → Prop}
theorem next (h : Ply w0 db k m v F wr) (b : Below wr.heap.size wr w') : Ply w0 db k m v F w' :=
  ⟨h.de.next b, h.dl.next b, h.sep, h.ge, h.be.trans (b.mono h.be.size), h.st, h.len⟩
theorem doc_kept (h : Ply w0 db k m v F wr) (ho : Kept F wr w') : DocL w' v m :=
  h.dl.keptB fun h0 q hq => ho.block q (h.dl.lt h0 q hq) (h.sep h0 q hq)
theorem below (h : Ply w0 db k m v F wr) (ho : Kept F wr w') : Below w0.heap.size w0 w' := h.be.trans (ho.below h.be.size h.ge)
/-- The heap has turned, and the list with it: a list whose block is old, or behind all. -/
theorem turn (h : Ply w0 db k m v F wr) (hd : De w' F db k m' 25) (ho : Kept F wr w') (hl : DocL w' v' m') (hv : 0 < m'.length → ∀ q, v'.ownBlock = some q → ¬ F q) (hs : Srt m') (hm : m'.length ≤ 25) : Ply w0 db k m' v' F w' :=
  ⟨hd, hl, hv, h.ge, h.below ho, hs, hm⟩
end Ply
/-- What an act leaves. -/
def DoesOk (w0 : World) (db : Nat) (k : Bool) (e : Ending) (w' : World) : Prop :=
  ∃ v' m' F', e = .returned (.tuple #[v', .bool true]) ∧ Ply w0 db k m' v' F' w'
end Go.Proofs.Ytiighhcilgjebaa
