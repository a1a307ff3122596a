/-
  A region that draws its order, by what holds at every stage of it: values that come up, new variables that are made and stored into: one proof for each operation, not one for each order.
-/
import Derived.Deep.RegionHeld3
import Derived.Below
import Derived.Lib.Hide
namespace Go.Proofs.YtbadingdklenhaaGreatDoor
set_option maxRecDepth 100000
open Go.RowKit

section
variable {P : Program} {ops : Array Oper} {Q : Exit → Act → World → Prop} {md : Region.Mode}

/-- How many operations have not come up. -/
def unl (l : Array Bool) : Nat := l.toList.count false
theorem count_set : ∀ (l : List Bool) (i : Nat), l[i]? = some false → (l.set i true).count false + 1 = l.count false
  | [], i, h => by simp at h
  | b :: r, 0, h => by simp at h; subst h; simp
  | b :: r, i + 1, h => by
    have := count_set r i (by simpa using h)
    cases b <;> simp <;> omega
theorem unl_set {l : Array Bool} {i : Nat} (h : l.getD i true = false) : unl (l.setIfInBounds i true) + 1 = unl l := by
  unfold unl
  rw [Array.toList_setIfInBounds]
  refine count_set _ _ ?_
  rcases Nat.lt_or_ge i l.size with h' | h'
  · rw [Array.getD_eq_getD_getElem?, Array.getElem?_eq_getElem h'] at h
    rw [Array.getElem?_toList, Array.getElem?_eq_getElem h']
    simpa using h
  · rw [Array.getD_eq_getD_getElem?, Array.getElem?_eq_none h'] at h; simp at h

theorem wpAny_inv {Inv : Array Bool → Act → World → Prop}
    (hstep : ∀ l a w, Inv l a w → ∀ i o, ops[i]? = some o → l.getD i true = false → (∀ e ∈ o.after, Region.binds md e = true → l.getD e.on false = true) → wpOp P ops Q i (Inv (l.setIfInBounds i true)) a w)
    (hdone : ∀ l a w, Inv l a w → Region.ready md ops l = [] → Q .normal a w) : ∀ (fuel : Nat) (l : Array Bool) (a : Act) (w : World), unl l ≤ fuel → Inv l a w → wpAny P md ops Q fuel l a w := by
  intro fuel
  induction fuel with
  | zero =>
    intro l a w hf hi
    have hr : Region.ready md ops l = [] := by
      refine List.eq_nil_iff_forall_not_mem.2 fun i hm => ?_
      have := unl_set (mem_ready.1 hm).1
      omega
    exact ⟨hr, hdone l a w hi hr⟩
  | succ fuel ih =>
    intro l a w hf hi
    refine ⟨hdone l a w hi, fun i hm => ?_⟩
    obtain ⟨h1, o, h2, h3⟩ := mem_ready.1 hm
    exact wpOp_mono (fun a' w' h => ih _ a' w' (by have := unl_set h1; omega) h) (hstep l a w hi i o h2 h1 h3)

theorem region_inv {Inv : Array Bool → Act → World → Prop} {id : Nat} {a : Act} {w : World} (hm : P.follows .mixedOrders = true)
    (hstep : ∀ l a w, Inv l a w → ∀ i o, ops[i]? = some o → l.getD i true = false → (∀ e ∈ o.after, Region.binds .any e = true → l.getD e.on false = true) → wpOp P ops Q i (Inv (l.setIfInBounds i true)) a w)
    (hstart : Inv (Array.replicate ops.size false) a w.drew)
    (hdone : ∀ l a w, Inv l a w → Region.ready .any ops l = [] → Q .normal a w) : (Code.region id ops true).wp P Q a w := by
  refine wp_region_any hm (wpAny_inv hstep hdone _ _ _ _ ?_ hstart)
  unfold unl
  simp

theorem ready_all {l : Array Bool} {i : Nat} {o : Oper} (h : Region.ready md ops l = []) (ho : ops[i]? = some o) (ha : ∀ e ∈ o.after, Region.binds md e = true → l.getD e.on false = true) : l.getD i true = true := by
  cases hh : l.getD i true with
  | true => rfl
  | false =>
    have := mem_ready.2 ⟨hh, o, ho, ha⟩
    rw [h] at this; cases this
end

/-- Each operation waits for earlier ones alone. -/
def acyc (md : Region.Mode) (ops : Array Oper) : Bool := (List.range ops.size).all fun i => match ops[i]? with
  | some o => o.after.toList.all fun e => !Region.binds md e || decide (e.on < i)
  | none => true
theorem ready_done {md : Region.Mode} {ops : Array Oper} {l : Array Bool} (hr : Region.ready md ops l = []) (hl : l.size = ops.size) (ha : acyc md ops = true) : ∀ i, i < ops.size → l.getD i true = true := by
  intro i
  induction i using Nat.strongRecOn with
  | _ i ih =>
    intro hi
    have h1 := (List.all_eq_true.1 ha) i (List.mem_range.2 hi)
    rw [Array.getElem?_eq_getElem hi] at h1
    refine ready_all hr (Array.getElem?_eq_getElem hi) (fun e he hb => ?_)
    have h2 := (List.all_eq_true.1 h1) e (by simpa using he)
    simp [hb] at h2
    have h3 := ih e.on h2 (by omega)
    have hlt : e.on < l.size := by omega
    rw [Array.getD_eq_getD_getElem?, Array.getElem?_eq_getElem hlt] at h3 ⊢
    exact h3

def upd {α : Type} (f : Nat → α) (i : Nat) (v : α) : Nat → α := fun j => if j = i then v else f j
theorem upd_self {α : Type} {f : Nat → α} {i : Nat} {v : α} (h : f i = v) : upd f i v = f := by
  funext j
  unfold upd
  by_cases hj : j = i
  · rw [if_pos hj, hj, h]
  · rw [if_neg hj]
theorem upd_at {α : Type} (f : Nat → α) (i : Nat) (v : α) : upd f i v i = v := by unfold upd; rw [if_pos rfl]
theorem upd_ne {α : Type} (f : Nat → α) {i j : Nat} (v : α) (h : j ≠ i) : upd f i v j = f j := by unfold upd; rw [if_neg h]

/-- What the operations of a region do: ks: 0 a value, 1 a new variable, 2 a store (or what does not matter); ds: the slot; vs: the value; ss: a new variable's store; zs, fs: its cells, fresh and stored; ts: its type. -/
structure Plan where
  ks : List Nat
  ds : List Nat
  vs : List Value
  ss : List Nat
  zs : List (Array Value)
  fs : List (Array Value)
  ts : List Nat
namespace Plan
def K (p : Plan) (i : Nat) : Nat := p.ks.getD i 2
def D (p : Plan) (i : Nat) : Nat := p.ds.getD i 0
def V (p : Plan) (i : Nat) : Value := p.vs.getD i undef
def S (p : Plan) (i : Nat) : Nat := p.ss.getD i 0
def Z (p : Plan) (i : Nat) : Array Value := p.zs.getD i #[]
def F (p : Plan) (i : Nat) : Array Value := p.fs.getD i #[]
def T (p : Plan) (i : Nat) : Nat := p.ts.getD i 0
/-- No two operations have one slot; no two new variables one store; a store is a store. -/
def ok (p : Plan) : Bool := (List.range p.ks.length).all fun i => (p.K i != 1 || p.K (p.S i) == 2) && (List.range p.ks.length).all fun j => i == j || ((p.K i == 2 || p.K j == 2 || p.D i != p.D j) && (p.K i != 1 || p.K j != 1 || p.S i != p.S j))
theorem lt (p : Plan) {i : Nat} (h : p.K i ≠ 2) : i < p.ks.length := by
  rcases Nat.lt_or_ge i p.ks.length with h' | h'
  · exact h'
  · exact absurd (by unfold K; rw [List.getD_eq_getElem?_getD, List.getElem?_eq_none h']; rfl) h
/-- No new variable is made. -/
theorem none1 {p : Plan} (h : (List.range p.ks.length).all (fun i => p.K i != 1) = true) (i j : Nat) (hj : p.K j = 1) : p.S j ≠ i := by
  have := (List.all_eq_true.1 h) j (List.mem_range.2 (p.lt (by omega)))
  simp [hj] at this
theorem okS {p : Plan} (h : p.ok = true) {i : Nat} (hi : p.K i = 1) : p.K (p.S i) = 2 := by
  have hl := p.lt (i := i) (by omega)
  have := (List.all_eq_true.1 h) i (List.mem_range.2 hl)
  simp [hi] at this
  exact this.1
theorem okD {p : Plan} (h : p.ok = true) {i j : Nat} (hi : p.K i ≠ 2) (hj : p.K j ≠ 2) (hij : i ≠ j) : p.D i ≠ p.D j := by
  have h1 := (List.all_eq_true.1 h) i (List.mem_range.2 (p.lt hi))
  have h2 := (List.all_eq_true.1 (by simp only [Bool.and_eq_true] at h1; exact h1.2)) j (List.mem_range.2 (p.lt hj))
  simp [hi, hj, hij] at h2
  exact h2.1
theorem okSS {p : Plan} (h : p.ok = true) {i j : Nat} (hi : p.K i = 1) (hj : p.K j = 1) (hij : i ≠ j) : p.S i ≠ p.S j := by
  have h1 := (List.all_eq_true.1 h) i (List.mem_range.2 (p.lt (by omega)))
  have h2 := (List.all_eq_true.1 (by simp only [Bool.and_eq_true] at h1; exact h1.2)) j (List.mem_range.2 (p.lt (by omega)))
  simp [hi, hj, hij] at h2
  exact h2.2
end Plan

/-- What holds at every stage: e: which operations have come up; t: the slots; g: the new variables' blocks. -/
structure Stage (p : Plan) (w0 : World) (e : Nat → Bool) (t : Nat → Value) (g : Nat → Nat) (wr : World) : Prop where
  mk ::
  be : Below w0.heap.size w0 wr
  val : ∀ i, p.K i = 0 → e i = true → t (p.D i) = p.V i
  box : ∀ i, p.K i = 1 → e i = true → t (p.D i) = .pointer (some ⟨g i, 0, none⟩) ∧ w0.heap.size ≤ g i ∧ wr.heap[g i]? = some (.cells (if e (p.S i) = true then p.F i else p.Z i) (p.T i) (0, 0))
  ne : ∀ i j, p.K i = 1 → p.K j = 1 → e i = true → e j = true → i ≠ j → g i ≠ g j
  z : ∀ i, p.K i = 1 → e (p.S i) = true → e i = true
namespace Stage
variable {p : Plan} {w0 wr w' : World} {e : Nat → Bool} {t : Nat → Value} {g : Nat → Nat}
theorem start (p : Plan) (w : World) (t : Nat → Value) (g : Nat → Nat) : Stage p w (fun _ => false) t g w.drew :=
  ⟨(Below.refl _ _).drew, (fun _ _ h => by cases h), (fun _ _ h => by cases h), (fun _ _ _ _ h => by cases h), (fun _ _ h => by cases h)⟩
theorem blt (h : Stage p w0 e t g wr) {i : Nat} (hk : p.K i = 1) (he : e i = true) : g i < wr.heap.size := (Array.getElem?_eq_some_iff.1 (h.box i hk he).2.2).1
theorem grow (h : Stage p w0 e t g wr) (hb : Below wr.heap.size wr w') : Stage p w0 e t g w' :=
  ⟨h.be.trans (hb.mono h.be.size), h.val, fun i hk he => by
    obtain ⟨h1, h2, h3⟩ := h.box i hk he
    exact ⟨h1, h2, (hb.block _ (h.blt hk he)).trans h3⟩, h.ne, h.z⟩
theorem vals (h : Stage p w0 e t g wr) (ok : p.ok = true) {i : Nat} (hk : p.K i = 0) : Stage p w0 (upd e i true) (upd t (p.D i) (p.V i)) g wr := by
  refine ⟨h.be, fun j hj he => ?_, fun j hj he => ?_, fun j k hj hk' hej hek => ?_, fun j hj he => ?_⟩
  · by_cases hji : j = i
    · subst hji; rw [upd_at]
    · rw [upd_ne _ _ (p.okD ok (by omega) (by omega) hji)]
      rw [upd_ne _ _ hji] at he
      exact h.val j hj he
  · have hji : j ≠ i := by rintro rfl; omega
    have hsi : p.S j ≠ i := by intro hh; have := p.okS ok hj; rw [hh] at this; omega
    rw [upd_ne _ _ hji] at he
    rw [upd_ne _ _ (p.okD ok (by omega) (by omega) hji), upd_ne _ _ hsi]
    exact h.box j hj he
  · rw [upd_ne _ _ (by rintro rfl; omega)] at hej hek
    exact h.ne j k hj hk' hej hek
  · rw [upd_ne _ _ (by rintro rfl; omega)]
    rw [upd_ne _ _ (by intro hh; have := p.okS ok hj; rw [hh] at this; omega)] at he
    exact h.z j hj he
/-- An operation that does not matter (its guard says no). -/
theorem skip (h : Stage p w0 e t g wr) {i : Nat} (hk : p.K i = 2) (hn : ∀ j, p.K j = 1 → p.S j ≠ i) : Stage p w0 (upd e i true) t g wr := by
  refine ⟨h.be, fun j hj he => ?_, fun j hj he => ?_, fun j k hj hk' hej hek => ?_, fun j hj he => ?_⟩
  · rw [upd_ne _ _ (by rintro rfl; omega)] at he
    exact h.val j hj he
  · rw [upd_ne _ _ (by rintro rfl; omega)] at he
    rw [upd_ne _ _ (hn j hj)]
    exact h.box j hj he
  · rw [upd_ne _ _ (by rintro rfl; omega)] at hej hek
    exact h.ne j k hj hk' hej hek
  · rw [upd_ne _ _ (by rintro rfl; omega)]
    rw [upd_ne _ _ (hn j hj)] at he
    exact h.z j hj he
theorem alloc (h : Stage p w0 e t g wr) (ok : p.ok = true) {i : Nat} (hk : p.K i = 1) (he : e i = false) :
    Stage p w0 (upd e i true) (upd t (p.D i) (.pointer (some ⟨wr.heap.size, 0, none⟩))) (upd g i wr.heap.size) (wr.alloc (.cells (p.Z i) (p.T i))) := by
  have hsz := h.be.size
  have hb : Below wr.heap.size wr (wr.alloc (.cells (p.Z i) (p.T i))) := (Below.refl _ _).alloc (Nat.le_refl _) _
  have hS : e (p.S i) = false := by
    cases hh : e (p.S i) with
    | false => rfl
    | true => rw [h.z i hk hh] at he; cases he
  refine ⟨h.be.trans (hb.mono hsz), fun j hj hej => ?_, fun j hj hej => ?_, fun j k hj hk' hej hek hjk => ?_, fun j hj hej => ?_⟩
  · have hji : j ≠ i := by rintro rfl; omega
    rw [upd_ne _ _ hji] at hej
    rw [upd_ne _ _ (p.okD ok (by omega) (by omega) hji)]
    exact h.val j hj hej
  · have hsi : p.S j ≠ i := by intro hh; have := p.okS ok hj; rw [hh] at this; omega
    by_cases hji : j = i
    · subst hji
      rw [upd_at, upd_at, upd_ne _ _ hsi, hS]
      exact ⟨rfl, hsz, by rw [heap_alloc_new]; rfl⟩
    · rw [upd_ne _ _ hji] at hej
      rw [upd_ne _ _ (p.okD ok (by omega) (by omega) hji), upd_ne _ _ hsi, upd_ne _ _ hji]
      obtain ⟨h1, h2, h3⟩ := h.box j hj hej
      exact ⟨h1, h2, (hb.block _ (h.blt hj hej)).trans h3⟩
  · by_cases hji : j = i
    · subst hji
      rw [upd_ne _ _ (Ne.symm hjk)] at hek
      rw [upd_at, upd_ne _ _ (Ne.symm hjk)]
      have := h.blt hk' hek
      omega
    · rw [upd_ne _ _ hji] at hej
      by_cases hki : k = i
      · subst hki
        rw [upd_at, upd_ne _ _ hji]
        have := h.blt hj hej
        omega
      · rw [upd_ne _ _ hki] at hek
        rw [upd_ne _ _ hji, upd_ne _ _ hki]
        exact h.ne j k hj hk' hej hek hjk
  · rw [upd_ne _ _ (by intro hh; have := p.okS ok hj; rw [hh] at this; omega)] at hej
    by_cases hji : j = i
    · subst hji; rw [upd_at]
    · rw [upd_ne _ _ hji]; exact h.z j hj hej
/-- Nothing but the block b has turned. -/
structure Only (b : Nat) (w w' : World) : Prop where
  mk ::
  os : w'.os = w.os
  tape : w'.tape = w.tape
  output : w'.output = w.output
  size : w'.heap.size = w.heap.size
  block : ∀ k, k ≠ b → w'.heap[k]? = w.heap[k]?
theorem store (h : Stage p w0 e t g wr) (ok : p.ok = true) {i : Nat} (hk : p.K i = 1) (he : e i = true) (hw : Only (g i) wr w') (hc : w'.heap[g i]? = some (.cells (p.F i) (p.T i) (0, 0))) :
    Stage p w0 (upd e (p.S i) true) t g w' := by
  obtain ⟨_, hg, _⟩ := h.box i hk he
  have hkS := p.okS ok hk
  refine ⟨⟨hw.os.trans h.be.os, hw.tape.trans h.be.tape, hw.output.trans h.be.output, by rw [hw.size]; exact h.be.size, fun k hk => (hw.block k (by omega)).trans (h.be.block k hk)⟩, fun j hj hej => ?_, fun j hj hej => ?_, fun j k hj hk' hej hek hjk => ?_, fun j hj hej => ?_⟩
  · rw [upd_ne _ _ (by intro hh; rw [hh, hkS] at hj; omega)] at hej
    exact h.val j hj hej
  · have hjS : j ≠ p.S i := by intro hh; rw [hh, hkS] at hj; omega
    rw [upd_ne _ _ hjS] at hej
    by_cases hji : j = i
    · subst hji
      rw [upd_at, if_pos rfl]
      exact ⟨(h.box j hj hej).1, hg, hc⟩
    · rw [upd_ne _ _ (p.okSS ok hj hk hji)]
      obtain ⟨h1, h2, h3⟩ := h.box j hj hej
      exact ⟨h1, h2, (hw.block _ (h.ne j i hj hk hej he hji)).trans h3⟩
  · rw [upd_ne _ _ (by intro hh; rw [hh, hkS] at hj; omega)] at hej
    rw [upd_ne _ _ (by intro hh; rw [hh, hkS] at hk'; omega)] at hek
    exact h.ne j k hj hk' hej hek hjk
  · rw [upd_ne _ _ (by intro hh; rw [hh, hkS] at hj; omega)]
    by_cases hji : j = i
    · subst hji; exact he
    · rw [upd_ne _ _ (p.okSS ok hj hk hji)] at hej
      exact h.z j hj hej
end Stage
theorem only_set {b o : Nat} {v : Value} {w : World} : Stage.Only b w (w.setCell ⟨b, o, none⟩ v) :=
  ⟨rfl, rfl, rfl, by simp [World.setCell], fun k hk => Below.heap_setCell w ⟨b, o, none⟩ v k hk⟩
theorem only_trans {b : Nat} {w w' w'' : World} (h : Stage.Only b w w') (k : Stage.Only b w' w'') : Stage.Only b w w'' :=
  ⟨k.os.trans h.os, k.tape.trans h.tape, k.output.trans h.output, k.size.trans h.size, fun i hi => (k.block i hi).trans (h.block i hi)⟩
theorem set_block {b o : Nat} {v : Value} {w : World} {c : Array Value} {t : TypeId} {f : Nat × Nat} (h : w.heap[b]? = some (.cells c t f)) : (w.setCell ⟨b, o, none⟩ v).heap[b]? = some (.cells (c.setIfInBounds o v) t f) := by
  simp only [World.setCell, Array.getElem?_modify, if_pos, h]
  simp
end Go.Proofs.YtbadingdklenhaaGreatDoor
