/-
  What one store makes of an instance that may be (layer 9): a number out of its limits: ErrLimit, and no decisions.
-/
import Derived.Test.YtoaibbcdkbddeaaDoorInstTm
namespace Go.Proofs.YtoaibbcdkbddeaaDoor
set_option maxRecDepth 100000
open Go.RowKit

theorem chk_zero {I : In} (h : I.chk = 0) : 0 ≤ I.kind ∧ I.kind ≤ 3 ∧ I.others = false ∧ I.sized = true ∧ I.formed = true ∧ I.fine = true := by
  unfold In.chk at h
  split at h
  · omega
  · rename_i h1
    split at h
    · omega
    · rename_i h2
      split at h
      · omega
      · rename_i h3
        split at h
        · omega
        · rename_i h4
          split at h
          · omega
          · rename_i h5
            exact ⟨by omega, by omega, by simpa using h2, by simpa using h3, by simpa using h4, by simpa using h5⟩
theorem dec_none {I : In} (h : I.chk = 22) : I.dec = 0 := by unfold In.dec; rw [h]; rfl
/-- Of a knapsack that may be nothing but items and cap; and so on. -/
theorem own_zero {I : In} (h : I.chk = 0) (hk : I.kind = 0) : I.cost = [] ∧ I.size = 0 ∧ I.sets = [] := by
  have := (chk_zero h).2.2.1
  simpa [In.others, In.sq, In.cv, hk] using this
theorem own_three {I : In} (h : I.chk = 0) (hk : I.kind = 3) : I.cap = 0 ∧ I.items = [] ∧ I.cost = [] := by
  have := (chk_zero h).2.2.1
  simp [In.others, In.sq, In.kn, hk] at this
  exact ⟨this.1.1, this.1.2, this.2⟩
theorem own_square {I : In} (h : I.chk = 0) (h0 : ¬ I.kind = 0) (h3 : ¬ I.kind = 3) : I.items = [] ∧ I.sets = [] ∧ 1 ≤ I.cost.length := by
  have ho := (chk_zero h).2.2.1
  have hz := (chk_zero h).2.2.2.1
  have hk := chk_zero h
  simp [In.others, In.kn, In.cv, h0, h3] at ho
  refine ⟨ho.1.2, ho.2.2, ?_⟩
  have hk12 : I.kind = 1 ∨ I.kind = 2 := by omega
  rcases hk12 with e | e <;> simp [In.sized, e] at hz <;> omega
theorem put_item {I : In} (h : I.chk = 0) {i : Nat} {p : Int × Int} (hi : I.items[i]? = some p) : ({ I with items := I.items.set i (p.1, 2147483649) } : In).chk = 22 := by
  obtain ⟨a, b, c, d, e, f⟩ := chk_zero h
  refine In.chk_fine a b ?_ ?_ e ?_
  · rw [← c]; simp [In.others, In.kn, In.sq, In.cv]
  · rw [← d]; simp [In.sized]
  · have : (I.items.set i (p.1, 2147483649)).all (fun p => amt p.1 && amt p.2) = false := by
      rw [List.all_eq_false]
      refine ⟨(p.1, 2147483649), List.mem_of_getElem? (i := i) (by rw [List.getElem?_set_self (List.getElem?_eq_some_iff.1 hi).1]), by simp [amt]⟩
    show (amt _ && (_ && _)) = false
    rw [this]; simp
theorem put_cap {I : In} (h : I.chk = 0) (hk : I.kind = 0) : ({ I with cap := 2147483649 } : In).chk = 22 := by
  obtain ⟨a, b, c, d, e, f⟩ := chk_zero h
  refine In.chk_fine a b ?_ d e ?_
  · rw [← c]; simp [In.others, In.sq, In.cv, hk]
  · show (amt _ && (_ && _)) = false
    rw [show amt 2147483649 = false from rfl]; rfl
theorem put_set {I : In} (h : I.chk = 0) {i : Nat} {s : Int × List Int} (hi : I.sets[i]? = some s) : ({ I with sets := I.sets.set i (-1, s.2) } : In).chk = 22 := by
  obtain ⟨a, b, c, d, e, f⟩ := chk_zero h
  refine In.chk_fine a b ?_ ?_ ?_ ?_
  · rw [← c]; simp [In.others, In.kn, In.sq, In.cv]
  · rw [← d]; simp [In.sized]
  · unfold In.formed at e ⊢
    rw [Bool.and_eq_true] at e ⊢
    refine ⟨e.1, ?_⟩
    have e2 := e.2
    rw [List.all_eq_true] at e2 ⊢
    intro x hx
    rcases List.mem_or_eq_of_mem_set hx with q | q
    · exact e2 x q
    · rw [q]; exact e2 s (List.mem_of_getElem? hi)
  · have : (I.sets.set i (-1, s.2)).all (fun s => amt s.1) = false := by
      rw [List.all_eq_false]
      refine ⟨(-1, s.2), List.mem_of_getElem? (i := i) (by rw [List.getElem?_set_self (List.getElem?_eq_some_iff.1 hi).1]), by simp [amt]⟩
    show (amt _ && (_ && (_ && _))) = false
    rw [this]; simp
theorem put_size {I : In} (h : I.chk = 0) (hk : I.kind = 3) : ({ I with size := 4097 } : In).chk = 22 := by
  obtain ⟨a, b, c, d, e, f⟩ := chk_zero h
  refine In.chk_sized a b ?_ ?_
  · rw [← c]; simp [In.others, In.kn, In.sq, hk]
  · simp [In.sized]
theorem put_cost {I : In} (h : I.chk = 0) {R : List (List Int)} (hl : R.length = I.cost.length) (hr : ∀ r ∈ R, r.length = R.length) (hx : ∃ r ∈ R, ∃ y ∈ r, mag y = false) : ({ I with cost := R } : In).chk = 22 := by
  obtain ⟨a, b, c, d, e, f⟩ := chk_zero h
  refine In.chk_fine a b ?_ ?_ ?_ ?_
  · rw [← c]; simp [In.others, In.kn, In.sq, In.cv, hl]
  · rw [← d]; simp [In.sized, hl]
  · unfold In.formed at e ⊢
    rw [Bool.and_eq_true] at e ⊢
    refine ⟨?_, e.2⟩
    rw [List.all_eq_true]
    intro r q
    simpa using hr r q
  · have : R.all (fun r => r.all mag) = false := by
      obtain ⟨r, q, y, q2, q3⟩ := hx
      rw [List.all_eq_false]
      refine ⟨r, q, ?_⟩
      rw [Bool.not_eq_true, List.all_eq_false]
      exact ⟨y, q2, by rw [q3]; decide⟩
    show (amt _ && (_ && (_ && _))) = false
    rw [this]; simp

theorem fl2_put : ∀ {l : List (Int × Int)} {i : Nat} {p : Int × Int} {x : Int}, l[i]? = some p → (fl2 l).set (i * 2 + 1) (.int .i64 x) = fl2 (l.set i (p.1, x))
  | q :: l, 0, p, x, h => by
    obtain rfl : q = p := by simpa using h
    rfl
  | q :: l, i + 1, p, x, h => by
    have ih := fl2_put (l := l) (i := i) (p := p) (x := x) (by simpa using h)
    rw [show (i + 1) * 2 + 1 = i * 2 + 1 + 2 by omega]
    show [Value.int .i64 q.1, .int .i64 q.2] ++ (fl2 l).set (i * 2 + 1) (.int .i64 x) = _
    rw [ih]
    rfl
theorem flS_put : ∀ {l : List (Int × List Int)} {us : List Value} {i : Nat} {s : Int × List Int} {x : Int}, us.length = l.length → l[i]? = some s → (flS l us).set (i * 2) (.int .i64 x) = flS (l.set i (x, s.2)) us
  | q :: l, u :: us, 0, s, x, _, h => by
    obtain rfl : q = s := by simpa using h
    rfl
  | q :: l, u :: us, i + 1, s, x, hl, h => by
    have ih := flS_put (l := l) (us := us) (i := i) (s := s) (x := x) (by simpa using hl) (by simpa using h)
    rw [show (i + 1) * 2 = i * 2 + 2 by omega]
    show [Value.int .i64 q.1, u] ++ (flS l us).set (i * 2) (.int .i64 x) = _
    rw [ih]
    rfl
section
variable {lo : Nat} {w : World} {vi vc vs : Value} {I : In} {uc us : List Value}
/-- An item's weight. -/
theorem MadeA.item (h : MadeA lo w vi vc vs I uc us) (hc : I.cost = []) (hs : I.sets = []) {g C i : Nat} {p : Int × Int} (e : vi = .slice (some ⟨g, 0, none⟩) I.items.length C) (hi : I.items[i]? = some p) (x : Int) :
    Ins (fun _ => True) (fun _ => True) (w.setCell ⟨g, i * 2 + 1, none⟩ (.int .i64 x)) (inV I vi vc vs) { I with items := I.items.set i (p.1, x) } := by
  have hi' := h.items
  subst e
  have h1 := (hi'.stored (i * 2 + 1) (.int .i64 x)).1
  rw [fl2_put hi] at h1
  obtain ⟨ki, kc, ks, kuc, kus, ev, _, k2, k3⟩ := h.ins.form
  unfold inV at ev
  simp only [Value.agg.injEq, Array.mk.injEq, List.cons.injEq, and_true] at ev
  obtain ⟨_, _, rfl, rfl, _, rfl⟩ := ev
  obtain ⟨A3, C3, rfl, q1, q2⟩ := k2.form
  obtain ⟨A4, C4, rfl, q3, q4⟩ := k3.form
  refine ⟨⟨_, _, _, kuc, kus, rfl, ?_, ⟨k2.len, ?_, fun i r v a _ => by rw [hc] at a; simp at a⟩, ⟨k3.len, ?_, fun i r v a _ => by rw [hs] at a; simp at a⟩⟩⟩
  · show Lies _ _ _ (I.items.set i (p.1, x)).length _
    rw [List.length_set]
    exact (lies_of_own h1).imp fun _ _ => trivial
  · exact ⟨A3, C3, rfl, q1, q2, fun q => by rw [hc] at q; simp at q⟩
  · exact ⟨A4, C4, rfl, q3, q4, fun q => by rw [hs] at q; simp at q⟩
/-- A set's cost. -/
theorem MadeA.set (h : MadeA lo w vi vc vs I uc us) (hi0 : I.items = []) (hc : I.cost = []) {g C i : Nat} {s : Int × List Int} (e : vs = .slice (some ⟨g, 0, none⟩) I.sets.length C) (hi : I.sets[i]? = some s) (x : Int) :
    Ins (fun _ => True) (fun _ => True) (w.setCell ⟨g, i * 2, none⟩ (.int .i64 x)) (inV I vi vc vs) { I with sets := I.sets.set i (x, s.2) } := by
  have hs' := h.sets
  have he := h.elems
  obtain ⟨ki, kc, ks, kuc, kus, ev, k1, k2, k3⟩ := h.ins.form
  unfold inV at ev
  simp only [Value.agg.injEq, Array.mk.injEq, List.cons.injEq, and_true] at ev
  obtain ⟨_, _, rfl, rfl, _, rfl⟩ := ev
  subst e
  have h1 := (hs'.stored (i * 2) (.int .i64 x)).1
  rw [flS_put h.slen hi] at h1
  obtain ⟨A3, C3, rfl, q1, q2⟩ := k1.form
  obtain ⟨A4, C4, rfl, q3, q4⟩ := k2.form
  refine ⟨⟨_, _, _, kuc, us, rfl, ?_, ⟨k2.len, ?_, fun i r v a _ => by rw [hc] at a; simp at a⟩, ⟨by rw [List.length_set]; exact h.slen, ?_, fun j r v a b => ?_⟩⟩⟩
  · exact ⟨A3, C3, rfl, q1, q2, fun q => by rw [hi0] at q; simp at q⟩
  · exact ⟨A4, C4, rfl, q3, q4, fun q => by rw [hc] at q; simp at q⟩
  · show Lies _ _ _ (I.sets.set i (x, s.2)).length _
    rw [List.length_set]
    exact (lies_of_own h1).imp fun _ _ => trivial
  · have hj : ∃ s', I.sets[j]? = some s' ∧ s'.2 = r.2 := by
      by_cases hij : i = j
      · subst hij
        rw [List.getElem?_set_self (List.getElem?_eq_some_iff.1 hi).1] at a
        cases a
        exact ⟨s, hi, rfl⟩
      · rw [List.getElem?_set_ne hij] at a
        exact ⟨r, a, rfl⟩
    obtain ⟨s', a', er⟩ := hj
    have ho := he j s' v a' b
    rw [← er]
    refine Lies.imp ((lies_of_own ho.1).held (set_held fun q hq => ?_)) (fun _ _ => trivial)
    intro e2
    exact ho.2 q hq (by rw [e2]; rfl)
/-- A number of the square's. -/
theorem MadeA.row (h : MadeA lo w vi vc vs I uc us) (hi0 : I.items = []) (hs : I.sets = []) {g C i k : Nat} {r : List Int} (hr : I.cost[i]? = some r) (e : uc[i]? = some (.slice (some ⟨g, 0, none⟩) r.length C)) (hk : k < r.length) (hsq : ∀ q ∈ I.cost, q.length = r.length) (x : Int) :
    ∃ R : List (List Int), Ins (fun _ => True) (fun _ => True) (w.setCell ⟨g, k, none⟩ (.int .i64 x)) (inV I vi vc vs) { I with cost := R } ∧ R.length = I.cost.length ∧ (∀ q ∈ R, q.length = r.length) ∧ ∃ q ∈ R, x ∈ q := by
  have hrows := h.rows
  have hcost := h.cost
  obtain ⟨ki, kc, ks, kuc, kus, ev, k1, k2, k3⟩ := h.ins.form
  unfold inV at ev
  simp only [Value.agg.injEq, Array.mk.injEq, List.cons.injEq, and_true] at ev
  obtain ⟨_, _, rfl, rfl, _, rfl⟩ := ev
  obtain ⟨A3, C3, rfl, q1, q2⟩ := k1.form
  obtain ⟨A4, C4, rfl, q3, q4⟩ := k3.form
  have hne := (hrows i r _ hr e).2 g rfl
  have hget : ∀ (j : Nat) (q : List Int) (v : Value), I.cost[j]? = some q → uc[j]? = some v → ((I.cost.zip uc).map fun q => if q.2.ownBlock = some g then q.1.set k x else q.1)[j]? = some (if v.ownBlock = some g then q.set k x else q) := by
    intro j q v a b
    rw [List.getElem?_map, (List.getElem?_zip_eq_some (z := (q, v))).2 ⟨a, b⟩]
    rfl
  have hlen : ((I.cost.zip uc).map fun q => if q.2.ownBlock = some g then q.1.set k x else q.1).length = I.cost.length := by
    rw [List.length_map, List.length_zip, h.clen, Nat.min_self]
  refine ⟨(I.cost.zip uc).map fun q => if q.2.ownBlock = some g then q.1.set k x else q.1, ⟨⟨_, _, _, uc, kus, rfl, ?_, ⟨by rw [hlen]; exact h.clen, ?_, fun j q v a b => ?_⟩, ⟨k3.len, ?_, fun i r v a _ => by rw [hs] at a; simp at a⟩⟩⟩, hlen, fun q hq => ?_, ?_⟩
  · exact ⟨A3, C3, rfl, q1, q2, fun q => by rw [hi0] at q; simp at q⟩
  · show Lies _ _ _ ((I.cost.zip uc).map _).length _
    rw [hlen]
    refine Lies.imp ((lies_of_own hcost).held (set_held fun q hq => ?_)) (fun _ _ => trivial)
    intro e2
    exact hne (by have e3 : q = g := e2; rw [← e3]; exact hq)
  · have hj : j < I.cost.length := by rw [← hlen]; exact (List.getElem?_eq_some_iff.1 a).1
    have a' := List.getElem?_eq_getElem hj
    generalize I.cost[j] = q0 at a'
    rw [hget j q0 v a' b] at a
    obtain rfl := Option.some.inj a
    have ho := (hrows j q0 v a' b).1
    by_cases hv : v.ownBlock = some g
    · rw [if_pos hv]
      have hl0 := hsq q0 (List.mem_of_getElem? a')
      obtain ⟨g', c', ev', _⟩ := ho.form (by omega)
      subst ev'
      obtain rfl : g' = g := by simpa [Value.ownBlock] using hv
      have h1 := (ho.stored k (.int .i64 x)).1
      show Lies _ _ _ _ _
      rw [List.length_set, show nl (q0.set k x) = (nl q0).set k (.int .i64 x) by unfold nl; rw [List.map_set]]
      exact (lies_of_own h1).imp fun _ _ => trivial
    · rw [if_neg hv]
      refine Lies.imp ((lies_of_own ho).held (set_held fun q hq => ?_)) (fun _ _ => trivial)
      intro e2
      exact hv (by have e3 : q = g := e2; rw [← e3]; exact hq)
  · exact ⟨A4, C4, rfl, q3, q4, fun q => by rw [hs] at q; simp at q⟩
  · obtain ⟨⟨q0, v⟩, hm, rfl⟩ := List.mem_map.1 hq
    have := hsq q0 (List.of_mem_zip hm).1
    show (if _ then _ else _ : List Int).length = _
    split
    · rw [List.length_set]; exact this
    · exact this
  · have hg := hget i r _ hr e
    rw [if_pos (show (Value.slice (some ⟨g, 0, none⟩) r.length C).ownBlock = some g from rfl)] at hg
    exact ⟨_, List.mem_of_getElem? hg, List.mem_of_getElem? (i := k) (by rw [List.getElem?_set_self hk])⟩
end
end Go.Proofs.YtoaibbcdkbddeaaDoor
