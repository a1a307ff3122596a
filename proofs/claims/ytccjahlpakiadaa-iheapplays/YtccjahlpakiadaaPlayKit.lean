/-
  A round of MmheapPlays (layer 5): a heap, the document's list, and the two variables that hold what each tells; what pops and tells answer, of an empty heap and of another.
-/
import Derived.Test.YtccjahlpakiadaaHeapKeep
import Derived.Test.YtccjahlpakiadaaLawAll
namespace Go.Proofs.Ytccjahlpakiadaa.I
set_option maxRecDepth 100000
open Go.RowKit Go.Sort

theorem DocL.keptB {w w' : World} {v : Value} {l : List En} (h : DocL w v l) (hk : 0 < l.length → ∀ b, v.ownBlock = some b → w'.heap[b]? = w.heap[b]?) : DocL w' v l := by
  obtain ⟨p, c, rfl, h2, h3⟩ := h.at_
  refine ⟨p, c, rfl, h2, fun h0 => ?_⟩
  obtain ⟨b, off, rfl, ⟨cur, f, q2⟩, q3⟩ := h3 h0
  have e := hk h0 b rfl
  refine ⟨b, off, rfl, ⟨cur, f, by rw [e]; exact q2⟩, fun i hi => ?_⟩
  have c : ∀ o, w'.cell? ⟨b, o, none⟩ = w.cell? ⟨b, o, none⟩ := fun o => World.cell?_of_block (by exact e)
  rw [c, c, c, c]
  exact q3 i hi
theorem DocL.lt {w : World} {v : Value} {l : List En} (h : DocL w v l) (h0 : 0 < l.length) (q : Nat) (hq : v.ownBlock = some q) : q < w.heap.size := by
  obtain ⟨p, c, rfl, h2, h3⟩ := h.at_
  obtain ⟨b, off, rfl, ⟨cur, f, q2⟩, q3⟩ := h3 h0
  simp [Value.ownBlock] at hq
  subst hq
  exact (Array.getElem?_eq_some_iff.1 q2).1
theorem put_ls (z : Nat → En) (k : Nat) : insE (z k) (srt (ls z k)) = srt (ls z (k + 1)) := by
  rw [insE_eq, ls_succ]
  exact srt_perm_eq (List.perm_append_comm (l₁ := [z k]) (l₂ := ls z k))
theorem ls_zero (z : Nat → En) : srt (ls z 0) = [] := List.eq_nil_of_length_eq_zero (by rw [srt_length, ls_length])
/-- A heap, the document's list, and the variables at R + 1 and R + 1 + 1. -/
structure Mid (w : World) (hb R : Nat) (v : Value) (l : List En) (m : Value) (ml : List En) (x y : En) (W : World) : Prop where
  mk ::
  ha : HeapAt W w.heap.size hb v l
  dl : DocL W m ml
  b1 : W.heap[R + 1]? = some (.cells #[.int .i64 x.b, .int .i64 x.d, .int .i64 x.s, .int .i64 x.i] 39 (0, 0))
  b2 : W.heap[R + 1 + 1]? = some (.cells #[.int .i64 y.b, .int .i64 y.d, .int .i64 y.s, .int .i64 y.i] 32 (0, 0))
  be : Below w.heap.size w W
  r : w.heap.size ≤ R
  hR : hb < R
  nv : ∀ q, v.ownBlock = some q → q ≠ R + 1 ∧ q ≠ R + 1 + 1
  nm : 0 < ml.length → ∀ q, m.ownBlock = some q → q ≠ R + 1 + 1
namespace Mid
variable {w W W' : World} {hb R k : Nat} {v v' m m' : Value} {l l' ml ml' : List En} {x y x' y' : En}
theorem start {w wr : World} (hB : Below w.heap.size w wr) (hA : HeapAt wr w.heap.size hb v l) (hD : DocL wr m ml) (a : Array Value) (t : TypeId) :
    Mid w hb wr.heap.size v l m ml zeroE zeroE (((wr.alloc (.cells a t)).alloc (.cells #[.int .i64 0, .int .i64 0, .int .i64 0, .int .i64 0] 39)).alloc (.cells #[.int .i64 0, .int .i64 0, .int .i64 0, .int .i64 0] 32)) := by
  have B1 : Below wr.heap.size wr (wr.alloc (.cells a t)) := (Below.refl _ _).alloc (Nat.le_refl _) _
  have s1 : (wr.alloc (.cells a t)).heap.size = wr.heap.size + 1 := by simp
  have B2 : Below (wr.heap.size + 1) (wr.alloc (.cells a t)) ((wr.alloc (.cells a t)).alloc (.cells #[.int .i64 0, .int .i64 0, .int .i64 0, .int .i64 0] 39)) := (Below.refl _ _).alloc (by omega) _
  have n1 := heap_alloc_new (wr.alloc (.cells a t)) (.cells #[.int .i64 0, .int .i64 0, .int .i64 0, .int .i64 0] 39)
  rw [s1] at n1
  have s2 : ((wr.alloc (.cells a t)).alloc (.cells #[.int .i64 0, .int .i64 0, .int .i64 0, .int .i64 0] 39)).heap.size = wr.heap.size + 1 + 1 := by simp
  generalize ((wr.alloc (.cells a t)).alloc (.cells #[.int .i64 0, .int .i64 0, .int .i64 0, .int .i64 0] 39)) = W2 at *
  have B3 : Below W2.heap.size W2 (W2.alloc (.cells #[.int .i64 0, .int .i64 0, .int .i64 0, .int .i64 0] 32)) := (Below.refl _ _).alloc (Nat.le_refl _) _
  have n2 := heap_alloc_new W2 (.cells #[.int .i64 0, .int .i64 0, .int .i64 0, .int .i64 0] 32)
  rw [s2] at n2
  have BB : Below wr.heap.size wr (W2.alloc (.cells #[.int .i64 0, .int .i64 0, .int .i64 0, .int .i64 0] 32)) := (B1.trans (B2.mono (by omega))).trans (B3.mono (by omega))
  have hs := hB.size
  refine ⟨hA.next BB, hD.next BB, (B3.block _ (by omega)).trans n1, n2, hB.trans (BB.mono hs), hs, hA.lt, fun q hq => ?_, fun h0 q hq => ?_⟩
  · have := (hA.row.lt q hq).2
    omega
  · have := hD.lt h0 q hq
    omega
theorem l1 (h : Mid w hb R v l m ml x y W) : R + 1 < W.heap.size := (Array.getElem?_eq_some_iff.1 h.b1).1
theorem l2 (h : Mid w hb R v l m ml x y W) : R + 1 + 1 < W.heap.size := (Array.getElem?_eq_some_iff.1 h.b2).1
theorem next (h : Mid w hb R v l m ml x y W) (b : Below W.heap.size W W') : Mid w hb R v l m ml x y W' :=
  ⟨h.ha.next b, h.dl.next b, (b.block _ h.l1).trans h.b1, (b.block _ h.l2).trans h.b2, h.be.trans (b.mono h.be.size), h.r, h.hR, h.nv, h.nm⟩
theorem doc (h : Mid w hb R v l m ml x y W) (hd : DocL W m' ml') (hq : 0 < ml'.length → ∀ q, m'.ownBlock = some q → q ≠ R + 1 + 1) : Mid w hb R v l m' ml' x y W :=
  ⟨h.ha, hd, h.b1, h.b2, h.be, h.r, h.hR, h.nv, hq⟩
theorem off (h : Mid w hb R v l m ml x y W) (ho : Off W hb v W') (ha : HeapAt W' w.heap.size hb v' l') (hq : ∀ q, v'.ownBlock = some q → v.ownBlock = some q ∨ W.heap.size ≤ q) : Mid w hb R v' l' m ml x y W' := by
  have hR := h.hR
  have q1 := h.l1
  have q2 := h.l2
  refine ⟨ha, h.dl.off h.ha ho, (ho.block _ h.l1 (by omega) (fun e => (h.nv _ e).1 rfl)).trans h.b1, (ho.block _ h.l2 (by omega) (fun e => (h.nv _ e).2 rfl)).trans h.b2, h.be.trans (ho.under h.ha.ge (fun q e => (h.ha.row.lt q e).1) h.be.size), h.r, h.hR, fun q e => ?_, h.nm⟩
  rcases hq q e with e' | e'
  · exact h.nv q e'
  · omega
theorem store1 (h : Mid w hb R v l m ml x y W) (x' : En) : Mid w hb R v l m ml x' y ((((W.setCell ⟨R + 1, 0, none⟩ (.int .i64 x'.b)).setCell ⟨R + 1, 1, none⟩ (.int .i64 x'.d)).setCell ⟨R + 1, 2, none⟩ (.int .i64 x'.s)).setCell ⟨R + 1, 3, none⟩ (.int .i64 x'.i)) := by
  have hR := h.hR
  have hr := h.r
  have o4 := only4 (b := R + 1) (v0 := .int .i64 x'.b) (v1 := .int .i64 x'.d) (v2 := .int .i64 x'.s) (v3 := .int .i64 x'.i) (w := W)
  have O : Off W (R + 1) (.slice none 0 0) _ := (Off.start (Below.refl _ W)).set4 (b := R + 1) (o := 0) (.inl rfl) (.int .i64 x'.b) (.int .i64 x'.d) (.int .i64 x'.s) (.int .i64 x'.i)
  refine ⟨h.ha.offs O (by omega) (by simp [Value.ownBlock]) (fun q e => ⟨(h.nv q e).1, by simp [Value.ownBlock]⟩), h.dl.kept fun b cur f e => o4.block b ?_, set4 h.b1, (o4.block _ (by omega)).trans h.b2, below_set4 h.be (by omega) _ _ _ _, h.r, h.hR, h.nv, h.nm⟩
  rintro rfl
  rw [h.b1] at e
  simp at e
theorem store2 (h : Mid w hb R v l m ml x y W) (y' : En) : Mid w hb R v l m ml x y' ((((W.setCell ⟨R + 1 + 1, 0, none⟩ (.int .i64 y'.b)).setCell ⟨R + 1 + 1, 1, none⟩ (.int .i64 y'.d)).setCell ⟨R + 1 + 1, 2, none⟩ (.int .i64 y'.s)).setCell ⟨R + 1 + 1, 3, none⟩ (.int .i64 y'.i)) := by
  have hR := h.hR
  have hr := h.r
  have o4 := only4 (b := R + 1 + 1) (v0 := .int .i64 y'.b) (v1 := .int .i64 y'.d) (v2 := .int .i64 y'.s) (v3 := .int .i64 y'.i) (w := W)
  have O : Off W (R + 1 + 1) (.slice none 0 0) _ := (Off.start (Below.refl _ W)).set4 (b := R + 1 + 1) (o := 0) (.inl rfl) (.int .i64 y'.b) (.int .i64 y'.d) (.int .i64 y'.s) (.int .i64 y'.i)
  exact ⟨h.ha.offs O (by omega) (by simp [Value.ownBlock]) (fun q e => ⟨(h.nv q e).2, by simp [Value.ownBlock]⟩), h.dl.keptB fun h0 b e => o4.block b (h.nm h0 b e), (o4.block _ (by omega)).trans h.b1, set4 h.b2, below_set4 h.be (by omega) _ _ _ _, h.r, h.hR, h.nv, h.nm⟩
theorem play (h : Mid w hb R v l m ml x y W) (hr : Right l) (hl : l.length ≤ 40 + k) (e : ml = srt l) : Play w hb k m W :=
  ⟨⟨v, l, h.ha, hr, hl, e ▸ h.dl⟩, h.be⟩
end Mid
/-- What is told of a list that is l, and what is left (b: from the end). -/
def PopsTo (b : Bool) (l l' : List En) (x : En) : Prop := (l = [] ∧ l' = [] ∧ x = zeroE) ∨ (b = false ∧ srt l = x :: srt l') ∨ (b = true ∧ srt l = srt l' ++ [x])
theorem srt_nil : srt [] = [] := List.eq_nil_of_length_eq_zero (by rw [srt_length]; rfl)
theorem PopsTo.le {b : Bool} {l l' : List En} {x : En} (h : PopsTo b l l' x) : l'.length ≤ l.length ∧ (0 < (srt l').length → 0 < (srt l).length) := by
  rcases h with ⟨rfl, rfl, _⟩ | ⟨_, e⟩ | ⟨_, e⟩
  · exact ⟨Nat.le_refl _, id⟩
  all_goals
    have e1 := congrArg List.length e
    simp [srt_length] at e1
    rw [srt_length, srt_length]
    omega
theorem rpop_both {b : Bool} {l l' : List En} {x : En} (hp : PopsTo b l l' x) (hl : l.length ≤ 1000) (v : Value) (w : World) (h : DocL w v (srt l)) : Calls Try.prog 14 #[v, .bool b] w (IsOut v x (srt l') w) := by
  have hle := hp.le.1
  rcases hp with ⟨rfl, rfl, rfl⟩ | ⟨rfl, e⟩ | ⟨rfl, e⟩
  · rw [srt_nil] at h ⊢
    exact rpop_none w v b h
  · rw [e] at h
    exact rpop_first _ _ (by rw [srt_length]; omega) v w h
  · rw [e] at h
    exact rpop_last _ _ (by rw [srt_length]; omega) v w h
/-- What a pop of a heap answers, whatever is in it. -/
def MPops (b : Bool) (w : World) (hb R : Nat) (l : List En) (m : Value) (ml : List En) (x0 y0 : En) (e : Ending) (w' : World) : Prop :=
  ∃ x v' l', e = .returned (.tuple #[entV x, .bool (decide (0 < l.length))]) ∧ Mid w hb R v' l' m ml x0 y0 w' ∧ Right l' ∧ PopsTo b l l' x
theorem mpopMin {w W : World} {hb R : Nat} {v m : Value} {l ml : List En} {x0 y0 : En} (hl : l.length ≤ 1000) (h : Mid w hb R v l m ml x0 y0 W) (hr : Right l) : Calls Try.prog 13 #[.pointer (some ⟨hb, 0, none⟩)] W (MPops false w hb R l m ml x0 y0) := by
  by_cases h0 : 0 < l.length
  · refine (popMin_any l hl h0 w.heap.size hb v W h.ha hr).mono ?_
    rintro e w' ⟨rfl, v', l', ha, ho, hr', hp, hq⟩
    exact ⟨_, v', l', by rw [decide_eq_true h0], h.off ho ha (fun q e => .inl (hq q e)), hr', .inr (.inl ⟨rfl, hr.min hp⟩)⟩
  · obtain rfl : l = [] := List.eq_nil_of_length_eq_zero (by omega)
    refine (popMin_none _ W (len0 h.ha)).mono ?_
    rintro e w' ⟨rfl, b⟩
    exact ⟨_, v, [], rfl, h.next b, hr, .inl ⟨rfl, rfl, rfl⟩⟩
theorem mpopMax {w W : World} {hb R : Nat} {v m : Value} {l ml : List En} {x0 y0 : En} (hl : l.length ≤ 1000) (h : Mid w hb R v l m ml x0 y0 W) (hr : Right l) : Calls Try.prog 15 #[.pointer (some ⟨hb, 0, none⟩)] W (MPops true w hb R l m ml x0 y0) := by
  by_cases h0 : 0 < l.length
  · refine (popMax_any l hl h0 w.heap.size hb v W h.ha hr).mono ?_
    rintro e w' ⟨rfl, v', l', ha, ho, hr', hp, hq⟩
    exact ⟨_, v', l', by rw [decide_eq_true h0], h.off ho ha (fun q e => .inl (hq q e)), hr', .inr (.inr ⟨rfl, hr.max hp⟩)⟩
  · obtain rfl : l = [] := List.eq_nil_of_length_eq_zero (by omega)
    refine (popMax_none _ W (len0 h.ha)).mono ?_
    rintro e w' ⟨rfl, b⟩
    exact ⟨_, v, [], rfl, h.next b, hr, .inl ⟨rfl, rfl, rfl⟩⟩
/-- What Min and Max answer, whatever is in the heap. -/
def MTells (b : Bool) (w : World) (hb R : Nat) (v : Value) (l : List En) (m : Value) (ml : List En) (x0 y0 : En) (e : Ending) (w' : World) : Prop :=
  ∃ x l', e = .returned (.tuple #[entV x, .bool (decide (0 < l.length))]) ∧ Mid w hb R v l m ml x0 y0 w' ∧ PopsTo b l l' x
theorem mmin {w W : World} {hb R : Nat} {v m : Value} {l ml : List En} {x0 y0 : En} (hl : l.length ≤ 1000) (h : Mid w hb R v l m ml x0 y0 W) (hr : Right l) : Calls Try.prog 16 #[.pointer (some ⟨hb, 0, none⟩)] W (MTells false w hb R v l m ml x0 y0) := by
  by_cases h0 : 0 < l.length
  · refine (min_any W w.heap.size hb v l h0 hl h.ha).mono ?_
    rintro e w' ⟨rfl, b⟩
    exact ⟨_, tak l 0, by rw [decide_eq_true h0], h.next b, .inr (.inl ⟨rfl, hr.min (tak_perm h0)⟩)⟩
  · obtain rfl : l = [] := List.eq_nil_of_length_eq_zero (by omega)
    refine (min_none _ W (len0 h.ha)).mono ?_
    rintro e w' ⟨rfl, b⟩
    exact ⟨_, [], rfl, h.next b, .inl ⟨rfl, rfl, rfl⟩⟩
theorem mmax {w W : World} {hb R : Nat} {v m : Value} {l ml : List En} {x0 y0 : En} (hl : l.length ≤ 1000) (h : Mid w hb R v l m ml x0 y0 W) (hr : Right l) : Calls Try.prog 17 #[.pointer (some ⟨hb, 0, none⟩)] W (MTells true w hb R v l m ml x0 y0) := by
  by_cases h0 : 0 < l.length
  · refine (max_any W w.heap.size hb v l h0 hl h.ha).mono ?_
    rintro e w' ⟨rfl, b⟩
    exact ⟨_, tak l (lastP l), by rw [decide_eq_true h0], h.next b, .inr (.inr ⟨rfl, hr.max (tak_perm (lastP_lt h0).1)⟩)⟩
  · obtain rfl : l = [] := List.eq_nil_of_length_eq_zero (by omega)
    refine (max_none _ W (len0 h.ha)).mono ?_
    rintro e w' ⟨rfl, b⟩
    exact ⟨_, [], rfl, h.next b, .inl ⟨rfl, rfl, rfl⟩⟩
/-- What region 35 has made: new blocks alone, and List's copy, once it is there. -/
structure MPl (w : World) (l : List En) (e : Bool) (t : Value) (wr : World) : Prop where
  mk ::
  be : Below w.heap.size w wr
  li : e = true → Lists wr t l
theorem MPl.next {w wr w' : World} {l : List En} {e : Bool} {t : Value} (h : MPl w l e t wr) (b : Below wr.heap.size wr w') : MPl w l e t w' :=
  ⟨h.be.trans (b.mono h.be.size), fun he => (h.li he).next b⟩
end Go.Proofs.Ytccjahlpakiadaa.I
