/-
  'a, m = append(a, of(x)), Push(m, x)' (DeheapPlays, layer 7): what holds at every stage of it, in whatever order.
-/
import Derived.Test.YtiighhcilgjebaaDeDoes
import Derived.Test.YtiighhcilgjebaaDeFrame3
namespace Go.Proofs.Ytiighhcilgjebaa
set_option maxRecDepth 100000
open Go.RowKit Go.Sort

/-- A slot that is read early and written late. -/
structure Late (old : Value) (e : Nat → Bool) (t : Value) (d : Nat) (rs : List Nat) : Prop where
  mk ::
  a : e d = false → t = old
  b : e d = true → ∀ r ∈ rs, e r = true
theorem Late.start (old : Value) (d : Nat) (rs : List Nat) : Late old (fun _ => false) old d rs := ⟨fun _ => rfl, (fun h => by cases h)⟩
theorem Late.mark {old t : Value} {e : Nat → Bool} {d i : Nat} {rs : List Nat} (h : Late old e t d rs) (hi : d ≠ i) : Late old (upd e i true) t d rs := by
  refine ⟨fun k => h.a (by rw [upd_ne _ _ hi] at k; exact k), fun k r hr => ?_⟩
  rw [upd_ne _ _ hi] at k
  by_cases hri : r = i
  · rw [hri, upd_at]
  · rw [upd_ne _ _ hri]; exact h.b k r hr
theorem Late.done {old t : Value} {e : Nat → Bool} {d : Nat} {rs : List Nat} (_ : Late old e t d rs) (hall : ∀ r ∈ rs, e r = true) (v : Value) : Late old (upd e d true) v d rs := by
  refine ⟨(fun k => by rw [upd_at] at k; cases k), fun _ r hr => ?_⟩
  by_cases hri : r = d
  · rw [hri, upd_at]
  · rw [upd_ne _ _ hri]; exact hall r hr
theorem Late.get {old t : Value} {e : Nat → Bool} {d : Nat} {rs : List Nat} (h : Late old e t d rs) (r : Nat) (hr : r ∈ rs) (he : e r = false) : t = old := by
  refine h.a ?_
  cases k : e d with
  | false => rfl
  | true => rw [h.b k r hr] at he; cases he
theorem docL_row {w w' : World} {v u : Value} {l : List En} {B n : Nat} {cs : List Value} (h : DocL w v l) (ho : w.ownsRow B 32 4 u n cs) (hg : w.grownBy w' u.ownBlock) : DocL w' v l := by
  refine h.kept fun b cur f q => hg.block b (Array.getElem?_eq_some_iff.1 q).1 (fun e => ?_)
  rcases ho.2 with ⟨rfl, _⟩ | ⟨g, cap, cur', rfl, _, hgg, _⟩
  · simp [Value.ownBlock] at e
  · simp [Value.ownBlock] at e
    subst e
    rw [hgg] at q
    simp at q
/-- Both lists, at every stage. -/
structure Pl (w : World) (j xb : Nat) (x : En) (l ml : List En) (va vd : Value) (e : Nat → Bool) (t : Nat → Value) (wr : World) : Prop where
  mk ::
  be : Below w.heap.size w wr
  X : wr.heap[xb]? = some (.cells #[.int .i64 x.b, .int .i64 x.d, .int .i64 x.s, .int .i64 x.i] 28 (0, 0))
  nx : va.ownBlock ≠ some xb
  A0 : e 4 = false → wr.ownsRow w.heap.size 32 4 va j (flatE l)
  A1 : e 4 = true → wr.ownsRow w.heap.size 32 4 (t 33) (j + 1) (flatE (l ++ [x]))
  D0 : e 7 = false → DocL wr vd ml
  D1 : e 7 = true → DocL wr (t 36) (insE x ml)
  S3 : e 3 = true → e 4 = false → ∃ g, t 32 = .slice (some ⟨g, 0, none⟩) 1 1 ∧ wr.heap[g]? = some (.cells #[.int .i64 x.b, .int .i64 x.d, .int .i64 x.s, .int .i64 x.i] 32 (0, 0)) ∧ va.ownBlock ≠ some g
  z4 : e 4 = true → e 3 = true
namespace Pl
variable {w wr w' : World} {j xb : Nat} {x : En} {l ml : List En} {va vd : Value} {e : Nat → Bool} {t : Nat → Value}
theorem next (h : Pl w j xb x l ml va vd e t wr) (b : Below wr.heap.size wr w') : Pl w j xb x l ml va vd e t w' :=
  ⟨h.be.trans (b.mono h.be.size), (b.block _ (Array.getElem?_eq_some_iff.1 h.X).1).trans h.X, h.nx, fun k => own_kept (h.A0 k) b, fun k => own_kept (h.A1 k) b, fun k => (h.D0 k).next b, fun k => (h.D1 k).next b,
    fun k k' => by obtain ⟨g, h1, h2, h3⟩ := h.S3 k k'; exact ⟨g, h1, (b.block _ (Array.getElem?_eq_some_iff.1 h2).1).trans h2, h3⟩, h.z4⟩
/-- Another operation has come up. -/
theorem of {e' : Nat → Bool} {t' : Nat → Value} (h : Pl w j xb x l ml va vd e t wr) (h3 : e' 3 = e 3) (h4 : e' 4 = e 4) (h7 : e' 7 = e 7) (t2 : t' 32 = t 32) (t3 : t' 33 = t 33) (t6 : t' 36 = t 36) : Pl w j xb x l ml va vd e' t' wr :=
  ⟨h.be, h.X, h.nx, by rw [h4]; exact h.A0, by rw [h4, t3]; exact h.A1, by rw [h7]; exact h.D0, by rw [h7, t6]; exact h.D1, by rw [h3, h4, t2]; exact h.S3, by rw [h3, h4]; exact h.z4⟩
theorem made (h : Pl w j xb x l ml va vd e t wr) (k4 : e 4 = false) : Pl w j xb x l ml va vd (upd e 3 true) (upd t 32 (.slice (some ⟨wr.heap.size, 0, none⟩) 1 1)) (wr.alloc (.cells #[.int .i64 x.b, .int .i64 x.d, .int .i64 x.s, .int .i64 x.i] 32)) := by
  have h2 := h.next ((Below.refl _ _).alloc (Nat.le_refl _) (.cells #[.int .i64 x.b, .int .i64 x.d, .int .i64 x.s, .int .i64 x.i] 32))
  refine ⟨h2.be, h2.X, h2.nx, h2.A0, h2.A1, h2.D0, h2.D1, fun _ _ => ⟨_, rfl, heap_alloc_new _ _, fun q => ?_⟩, fun _ => rfl⟩
  have := ((h.A0 k4).lt _ q).2
  omega
theorem app (h : Pl w j xb x l ml va vd e t wr) (k4 : e 4 = false) (k3 : e 3 = true) {g c : Nat} (ho : w'.ownsRow w.heap.size 32 4 (.slice (some ⟨g, 0, none⟩) (j + 1) c) (j + 1) (flatE l ++ encE x)) (hg : wr.grownBy w' va.ownBlock) : Pl w j xb x l ml va vd (upd e 4 true) (upd t 33 (.slice (some ⟨g, 0, none⟩) (j + 1) c)) w' := by
  have hA := h.A0 k4
  refine ⟨h.be.grown hg h.be.size (fun q hq => (hA.lt q hq).1), (hg.block _ (Array.getElem?_eq_some_iff.1 h.X).1 (fun q => h.nx q.symm)).trans h.X, h.nx, (fun k => by cases k), fun _ => ?_, fun k => docL_row (h.D0 k) hA hg, fun k => docL_row (h.D1 k) hA hg, (fun _ k => by cases k), fun _ => k3⟩
  show w'.ownsRow _ _ _ (.slice (some ⟨g, 0, none⟩) (j + 1) c) _ _
  rw [flatE_append, flatE_cons, flatE_nil, List.append_nil]
  exact ho
theorem put (h : Pl w j xb x l ml va vd e t wr) {v : Value} {n : Nat} (hn : (insE x ml).length = n) (ho : w'.ownsRow wr.heap.size 35 4 v n (flatE (insE x ml))) (b : Below wr.heap.size wr w') : Pl w j xb x l ml va vd (upd e 7 true) (upd t 36 v) w' := by
  have h2 := h.next b
  exact ⟨h2.be, h2.X, h2.nx, h2.A0, h2.A1, (fun k => by cases k), fun _ => docL_own ho hn, h2.S3, h2.z4⟩
end Pl
end Go.Proofs.Ytiighhcilgjebaa
