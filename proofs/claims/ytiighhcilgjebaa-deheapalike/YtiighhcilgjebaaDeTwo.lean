/-
  Two heaps beside one another (DeheapAlike, layer 7): what each call keeps of the other one, of variables and of rows.
-/
import Derived.Test.YtiighhcilgjebaaDeList
import Derived.Test.YtiighhcilgjebaaDeLaw
namespace Go.Proofs.Ytiighhcilgjebaa
set_option maxRecDepth 100000
open Go.RowKit Go.Sort

/-- Two new rows of one entry each. -/
theorem two_rows (w : World) (x : En) : ∀ r ∈ [((Value.slice (some ⟨w.heap.size, 0, none⟩) 1 1), [x]), ((Value.slice (some ⟨w.heap.size + 1, 0, none⟩) 1 1), [x])], (((w.alloc (.cells #[.int .i64 x.b, .int .i64 x.d, .int .i64 x.s, .int .i64 x.i] 32)).alloc (.cells #[.int .i64 x.b, .int .i64 x.d, .int .i64 x.s, .int .i64 x.i] 32)).drew).ownsRow w.heap.size 32 4 r.1 r.2.length (flatE r.2) := by
  have n0 := heap_alloc_new w (.cells #[.int .i64 x.b, .int .i64 x.d, .int .i64 x.s, .int .i64 x.i] 32)
  have s1 : (w.alloc (.cells #[.int .i64 x.b, .int .i64 x.d, .int .i64 x.s, .int .i64 x.i] 32)).heap.size = w.heap.size + 1 := by simp
  generalize (w.alloc (.cells #[.int .i64 x.b, .int .i64 x.d, .int .i64 x.s, .int .i64 x.i] 32)) = w1 at *
  have n1 := heap_alloc_new w1 (.cells #[.int .i64 x.b, .int .i64 x.d, .int .i64 x.s, .int .i64 x.i] 32)
  have b1 : Below w1.heap.size w1 (w1.alloc (.cells #[.int .i64 x.b, .int .i64 x.d, .int .i64 x.s, .int .i64 x.i] 32)) := (Below.refl _ _).alloc (Nat.le_refl _) _
  have q0 := IsCopied.row (l := [x]) (w := w) (w' := (w1.alloc (.cells #[.int .i64 x.b, .int .i64 x.d, .int .i64 x.s, .int .i64 x.i] 32)).drew) (B := w.heap.size) (by simp) (Nat.le_refl _) ((b1.block _ (by omega)).trans n0)
  have q1 := IsCopied.row (l := [x]) (w := w1) (w' := (w1.alloc (.cells #[.int .i64 x.b, .int .i64 x.d, .int .i64 x.s, .int .i64 x.i] 32)).drew) (B := w.heap.size) (by simp) (by omega) n1
  rw [s1] at q1
  intro r hr
  simp only [List.mem_cons, List.not_mem_nil, or_false] at hr
  rcases hr with rfl | rfl
  · exact q0
  · exact q1
/-- A variable: its block, its cells, its type. -/
abbrev Bx := Nat × Array Value × TypeId
/-- Two heaps, variables, and rows of entries, all apart. -/
structure Duo (w0 : World) (dg : Nat) (kg : Bool) (m1 : List En) (dh : Nat) (kh : Bool) (m2 : List En) (bx : List Bx) (rows : List (Value × List En)) (F1 F2 : Nat → Prop) (wr : World) : Prop where
  mk ::
  g : De wr F1 dg kg m1 30
  h : De wr F2 dh kh m2 30
  dj : ∀ b, F1 b → ¬ F2 b
  ge : ∀ b, F1 b ∨ F2 b → w0.heap.size ≤ b
  be : Below w0.heap.size w0 wr
  bx_ : ∀ x ∈ bx, wr.heap[x.1]? = some (.cells x.2.1 x.2.2 (0, 0)) ∧ ¬ F1 x.1 ∧ ¬ F2 x.1
  rw_ : ∀ r ∈ rows, wr.ownsRow w0.heap.size 32 4 r.1 r.2.length (flatE r.2) ∧ ∀ q, r.1.ownBlock = some q → ¬ F1 q ∧ ¬ F2 q
def St (w0 : World) (dg : Nat) (kg : Bool) (m1 : List En) (dh : Nat) (kh : Bool) (m2 : List En) (bx : List Bx) (rows : List (Value × List En)) (wr : World) : Prop :=
  ∃ F1 F2, Duo w0 dg kg m1 dh kh m2 bx rows F1 F2 wr
theorem Duo.next {w0 wr w' : World} {dg dh : Nat} {kg kh : Bool} {m1 m2 : List En} {bx : List Bx} {rows : List (Value × List En)} {F1 F2 : Nat → Prop} (h : Duo w0 dg kg m1 dh kh m2 bx rows F1 F2 wr) (b : Below wr.heap.size wr w') : Duo w0 dg kg m1 dh kh m2 bx rows F1 F2 w' :=
  ⟨h.g.next b, h.h.next b, h.dj, h.ge, h.be.trans (b.mono h.be.size), fun x hx => ⟨(b.block _ (Array.getElem?_eq_some_iff.1 (h.bx_ x hx).1).1).trans (h.bx_ x hx).1, (h.bx_ x hx).2⟩, fun r hr => ⟨own_kept (h.rw_ r hr).1 b, (h.rw_ r hr).2⟩⟩
namespace St
variable {w0 wr w' : World} {dg dh : Nat} {kg kh : Bool} {m1 m2 m1' : List En} {bx : List Bx} {rows : List (Value × List En)}
theorem swap (h : St w0 dg kg m1 dh kh m2 bx rows wr) : St w0 dh kh m2 dg kg m1 bx rows wr := by
  obtain ⟨F1, F2, h⟩ := h
  exact ⟨F2, F1, h.h, h.g, fun b f f' => h.dj b f' f, fun b f => h.ge b f.symm, h.be, fun x hx => ⟨(h.bx_ x hx).1, (h.bx_ x hx).2.2, (h.bx_ x hx).2.1⟩, fun r hr => ⟨(h.rw_ r hr).1, fun q e => ((h.rw_ r hr).2 q e).symm⟩⟩
theorem next (h : St w0 dg kg m1 dh kh m2 bx rows wr) (b : Below wr.heap.size wr w') : St w0 dg kg m1 dh kh m2 bx rows w' := by
  obtain ⟨F1, F2, h⟩ := h
  exact ⟨F1, F2, h.next b⟩
theorem below (h : St w0 dg kg m1 dh kh m2 bx rows wr) : Below w0.heap.size w0 wr := by
  obtain ⟨F1, F2, h⟩ := h
  exact h.be
theorem box (h : St w0 dg kg m1 dh kh m2 bx rows wr) {b : Nat} {c : Array Value} {T : TypeId} (hb : (b, c, T) ∈ bx) : wr.heap[b]? = some (.cells c T (0, 0)) := by
  obtain ⟨F1, F2, h⟩ := h
  exact (h.bx_ _ hb).1
theorem row (h : St w0 dg kg m1 dh kh m2 bx rows wr) {v : Value} {l : List En} (hb : (v, l) ∈ rows) : wr.ownsRow w0.heap.size 32 4 v l.length (flatE l) := by
  obtain ⟨F1, F2, h⟩ := h
  exact (h.rw_ _ hb).1
/-- A new variable, a new row: behind all. -/
theorem boxed (h : St w0 dg kg m1 dh kh m2 bx rows wr) (b : Below wr.heap.size wr w') {n : Nat} {c : Array Value} {T : TypeId} (hn : wr.heap.size ≤ n) (hb : w'.heap[n]? = some (.cells c T (0, 0))) : St w0 dg kg m1 dh kh m2 ((n, c, T) :: bx) rows w' := by
  obtain ⟨F1, F2, h⟩ := h
  have h2 := h.next b
  refine ⟨F1, F2, h2.g, h2.h, h2.dj, h2.ge, h2.be, fun x hx => ?_, h2.rw_⟩
  rcases List.mem_cons.1 hx with rfl | hx
  · exact ⟨hb, fun f => by have := h.g.lt n f; omega, fun f => by have := h.h.lt n f; omega⟩
  · exact h2.bx_ x hx
theorem rowed (h : St w0 dg kg m1 dh kh m2 bx rows wr) (b : Below wr.heap.size wr w') {v : Value} {l : List En} (ho : w'.ownsRow wr.heap.size 32 4 v l.length (flatE l)) : St w0 dg kg m1 dh kh m2 bx ((v, l) :: rows) w' := by
  obtain ⟨F1, F2, h⟩ := h
  have h2 := h.next b
  refine ⟨F1, F2, h2.g, h2.h, h2.dj, h2.ge, h2.be, h2.bx_, fun r hr => ?_⟩
  rcases List.mem_cons.1 hr with rfl | hr
  · exact ⟨ho.mono h.be.size, fun q e => ⟨fun f => by have := h.g.lt q f; have := (ho.lt q e).1; omega, fun f => by have := h.h.lt q f; have := (ho.lt q e).1; omega⟩⟩
  · exact h2.rw_ r hr
theorem rowedL (h : St w0 dg kg m1 dh kh m2 bx rows wr) (b : Below wr.heap.size wr w') (nr : List (Value × List En)) (ho : ∀ r ∈ nr, w'.ownsRow wr.heap.size 32 4 r.1 r.2.length (flatE r.2)) : St w0 dg kg m1 dh kh m2 bx (nr ++ rows) w' := by
  obtain ⟨F1, F2, h⟩ := h
  have h2 := h.next b
  refine ⟨F1, F2, h2.g, h2.h, h2.dj, h2.ge, h2.be, h2.bx_, fun r hr => ?_⟩
  rcases List.mem_append.1 hr with hr | hr
  · have q1 := ho r hr
    exact ⟨q1.mono h.be.size, fun q e => ⟨fun f => by have := h.g.lt q f; have := (q1.lt q e).1; omega, fun f => by have := h.h.lt q f; have := (q1.lt q e).1; omega⟩⟩
  · exact h2.rw_ r hr
/-- Fewer variables and rows. -/
theorem less (h : St w0 dg kg m1 dh kh m2 bx rows wr) {bx' : List Bx} {rows' : List (Value × List En)} (h1 : ∀ x ∈ bx', x ∈ bx) (h2 : ∀ r ∈ rows', r ∈ rows) : St w0 dg kg m1 dh kh m2 bx' rows' wr := by
  obtain ⟨F1, F2, h⟩ := h
  exact ⟨F1, F2, h.g, h.h, h.dj, h.ge, h.be, fun x hx => h.bx_ x (h1 x hx), fun r hr => h.rw_ r (h2 r hr)⟩
theorem nilrow (h : St w0 dg kg m1 dh kh m2 bx rows wr) : St w0 dg kg m1 dh kh m2 bx ((.slice none 0 0, []) :: rows) wr :=
  h.rowed (Below.refl _ _) (World.ownsRow_nil _ _ _ _)
theorem actF {F1 F2 : Nat → Prop} (h : Duo w0 dg kg m1 dh kh m2 bx rows F1 F2 wr) (nr : List (Value × List En))
    (ha : ∃ F1' : Nat → Prop, De w' F1' dg kg m1' 30 ∧ Kept F1 wr w' ∧ (∀ b, F1' b → F1 b ∨ wr.heap.size ≤ b) ∧ ∀ r ∈ nr, w'.ownsRow wr.heap.size 32 4 r.1 r.2.length (flatE r.2) ∧ ∀ q, r.1.ownBlock = some q → ¬ F1' q) :
    St w0 dg kg m1' dh kh m2 bx (nr ++ rows) w' := by
  obtain ⟨F1', hd, hk, hf, hr⟩ := ha
  have hs := h.be.size
  refine ⟨F1', F2, hd, h.h.kept hk (fun b f2 f1 => h.dj b f1 f2), fun b f f2 => ?_, fun b f => ?_, h.be.trans (hk.below hs (fun b f => h.ge b (.inl f))), fun x hx => ?_, fun r hr' => ?_⟩
  · rcases hf b f with f' | f'
    · exact h.dj b f' f2
    · have := h.h.lt b f2
      omega
  · rcases f with f | f
    · rcases hf b f with f' | f'
      · exact h.ge b (.inl f')
      · omega
    · exact h.ge b (.inr f)
  · obtain ⟨q1, q2, q3⟩ := h.bx_ x hx
    have hl := (Array.getElem?_eq_some_iff.1 q1).1
    refine ⟨(hk.block _ hl q2).trans q1, fun f => ?_, q3⟩
    rcases hf _ f with f' | f'
    · exact q2 f'
    · omega
  · rcases List.mem_append.1 hr' with hr' | hr'
    · obtain ⟨q1, q2⟩ := hr r hr'
      refine ⟨q1.mono hs, fun q e => ⟨q2 q e, fun f2 => ?_⟩⟩
      have := (q1.lt q e).1
      have := h.h.lt q f2
      omega
    · obtain ⟨q1, q2⟩ := h.rw_ r hr'
      refine ⟨row_keptF q1 hk (fun q e => (q2 q e).1), fun q e => ⟨fun f => ?_, (q2 q e).2⟩⟩
      rcases hf q f with f' | f'
      · exact (q2 q e).1 f'
      · have := (q1.lt q e).2
        omega
/-- What Push does to m. -/
def pushE (m : List En) : Int := if m.length = 30 then 10 else 0
def pushM (m : List En) (x : En) : List En := if m.length = 30 then m else srt (m ++ [x])
theorem pushM_length {m : List En} {x : En} (h : m.length ≤ 30) : (pushM m x).length ≤ 30 := by
  unfold pushM
  split
  · omega
  · rw [srt_length]
    simp
    omega
theorem push1 (h : St w0 dg kg m1 dh kh m2 bx rows wr) (hl : m1.length ≤ 30) (x : En) : Calls Try.prog 20 #[.pointer (some ⟨dg, 0, none⟩), entV x] wr fun e w' => e = .returned (.int .i64 (pushE m1)) ∧ St w0 dg kg (pushM m1 x) dh kh m2 bx rows w' := by
  have H := h
  obtain ⟨F1, F2, h⟩ := h
  unfold pushE pushM
  by_cases hf : m1.length = 30
  · rw [if_pos hf, if_pos hf]
    refine (pushD_full x wr h.g (by decide) (by decide) (by omega) (by omega)).mono ?_
    rintro e w' ⟨rfl, b⟩
    exact ⟨rfl, H.next b⟩
  · rw [if_neg hf, if_neg hf]
    refine (pushD_ok x wr h.g (by decide) (by decide) (by omega) (by omega)).mono ?_
    rintro e w' ⟨F', rfl, hd, hk, hf'⟩
    exact ⟨rfl, actF h [] ⟨F', hd, hk, hf', by simp⟩⟩
theorem evict1 (h : St w0 dg kg m1 dh kh m2 bx rows wr) (hl : m1.length ≤ 30) (n : Int) : Calls Try.prog 21 #[.pointer (some ⟨dg, 0, none⟩), .int .i64 n] wr fun e w' => ∃ v, e = .returned v ∧ St w0 dg kg (evL m1 (min n (m1.length : Int)).toNat) dh kh m2 bx ((v, evO m1 (min n (m1.length : Int)).toNat) :: rows) w' := by
  obtain ⟨F1, F2, h⟩ := h
  refine (evict_any n wr (by omega) h.g).mono ?_
  rintro e w' ⟨v, rfl, ho, hd, hk⟩
  refine ⟨v, rfl, actF h [(v, _)] ⟨F1, hd, hk, fun b f => .inl f, fun r hr => ?_⟩⟩
  simp at hr
  subst hr
  exact ⟨by rw [evO_le (by omega)]; exact ho, fun q e f => by have := h.g.lt q f; have := (ho.lt q e).1; omega⟩
theorem drop1 (h : St w0 dg kg m1 dh kh m2 bx rows wr) (hl : m1.length ≤ 30) (b : Int) : Calls Try.prog 22 #[.pointer (some ⟨dg, 0, none⟩), .int .i64 b] wr fun e w' => ∃ v, e = .returned v ∧ St w0 dg kg (evL m1 (cutN m1 b)) dh kh m2 bx ((v, (evO m1 (cutN m1 b)).reverse) :: rows) w' := by
  obtain ⟨F1, F2, h⟩ := h
  refine (drop_any b wr (by omega) h.g).mono ?_
  rintro e w' ⟨v, rfl, ho, hd, hk⟩
  refine ⟨v, rfl, actF h [(v, _)] ⟨F1, hd, hk, fun b f => .inl f, fun r hr => ?_⟩⟩
  simp at hr
  subst hr
  exact ⟨by rw [List.length_reverse, evO_le (cutN_le _ _)]; exact ho, fun q e f => by have := h.g.lt q f; have := (ho.lt q e).1; omega⟩
theorem popMin1 (h : St w0 dg kg m1 dh kh m2 bx rows wr) (hl : m1.length ≤ 30) : Calls Try.prog 23 #[.pointer (some ⟨dg, 0, none⟩)] wr fun e w' => e = .returned (.tuple #[entV (hdE false m1), .bool (decide (0 < m1.length))]) ∧ St w0 dg kg (tlE false m1) dh kh m2 bx rows w' := by
  obtain ⟨F1, F2, h⟩ := h
  refine (popMinD wr (by omega) h.g).mono ?_
  rintro e w' ⟨rfl, hd, hk⟩
  exact ⟨rfl, actF h [] ⟨F1, hd, hk, fun b f => .inl f, by simp⟩⟩
theorem sorted1 (h : St w0 dg kg m1 dh kh m2 bx rows wr) (hl : m1.length ≤ 30) : Calls Try.prog 16 #[.pointer (some ⟨dg, 0, none⟩)] wr fun e w' => ∃ v, e = .returned v ∧ St w0 dg kg m1 dh kh m2 bx ((v, m1) :: rows) w' := by
  have H := h
  obtain ⟨F1, F2, h⟩ := h
  refine (sortedD wr (by omega) h.g).mono ?_
  rintro e w' ⟨v, rfl, ho, b⟩
  exact ⟨v, rfl, H.rowed b ho⟩
/-- The second heap's calls: the same, with both turned. -/
theorem push2 (h : St w0 dg kg m1 dh kh m2 bx rows wr) (hl : m2.length ≤ 30) (x : En) : Calls Try.prog 20 #[.pointer (some ⟨dh, 0, none⟩), entV x] wr fun e w' => e = .returned (.int .i64 (pushE m2)) ∧ St w0 dg kg m1 dh kh (pushM m2 x) bx rows w' :=
  (h.swap.push1 hl x).mono fun _ _ ⟨a, b⟩ => ⟨a, b.swap⟩
theorem evict2 (h : St w0 dg kg m1 dh kh m2 bx rows wr) (hl : m2.length ≤ 30) (n : Int) : Calls Try.prog 21 #[.pointer (some ⟨dh, 0, none⟩), .int .i64 n] wr fun e w' => ∃ v, e = .returned v ∧ St w0 dg kg m1 dh kh (evL m2 (min n (m2.length : Int)).toNat) bx ((v, evO m2 (min n (m2.length : Int)).toNat) :: rows) w' :=
  (h.swap.evict1 hl n).mono fun _ _ ⟨v, a, b⟩ => ⟨v, a, b.swap⟩
theorem drop2 (h : St w0 dg kg m1 dh kh m2 bx rows wr) (hl : m2.length ≤ 30) (b : Int) : Calls Try.prog 22 #[.pointer (some ⟨dh, 0, none⟩), .int .i64 b] wr fun e w' => ∃ v, e = .returned v ∧ St w0 dg kg m1 dh kh (evL m2 (cutN m2 b)) bx ((v, (evO m2 (cutN m2 b)).reverse) :: rows) w' :=
  (h.swap.drop1 hl b).mono fun _ _ ⟨v, a, b⟩ => ⟨v, a, b.swap⟩
theorem popMin2 (h : St w0 dg kg m1 dh kh m2 bx rows wr) (hl : m2.length ≤ 30) : Calls Try.prog 23 #[.pointer (some ⟨dh, 0, none⟩)] wr fun e w' => e = .returned (.tuple #[entV (hdE false m2), .bool (decide (0 < m2.length))]) ∧ St w0 dg kg m1 dh kh (tlE false m2) bx rows w' :=
  (h.swap.popMin1 hl).mono fun _ _ ⟨a, b⟩ => ⟨a, b.swap⟩
theorem sorted2 (h : St w0 dg kg m1 dh kh m2 bx rows wr) (hl : m2.length ≤ 30) : Calls Try.prog 16 #[.pointer (some ⟨dh, 0, none⟩)] wr fun e w' => ∃ v, e = .returned v ∧ St w0 dg kg m1 dh kh m2 bx ((v, m2) :: rows) w' :=
  (h.swap.sorted1 hl).mono fun _ _ ⟨v, a, b⟩ => ⟨v, a, b.swap⟩
end St
end Go.Proofs.Ytiighhcilgjebaa
