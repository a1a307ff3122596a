/-
  A list of entries as cells (layer 4): its cells, one by one; copies of it.
-/
import Derived.Test.YtiighhcilgjebaaKeyWalks
import Derived.Laws.CopyRow
import Derived.Laws.CopyOwn
import Derived.Laws.OwnMore
namespace Go.Proofs.Ytiighhcilgjebaa
set_option maxRecDepth 100000
open Go.RowKit Go.Sort

/-- The cells of a list of entries. -/
def flatE (l : List En) : List Value := l.flatMap encE
theorem flatE_nil : flatE [] = [] := rfl
theorem flatE_cons (x : En) (l : List En) : flatE (x :: l) = encE x ++ flatE l := rfl
theorem flatE_append (l m : List En) : flatE (l ++ m) = flatE l ++ flatE m := by unfold flatE; rw [List.flatMap_append]
theorem flatE_length (l : List En) : (flatE l).length = l.length * 4 := by
  induction l with
  | nil => rfl
  | cons x r ih => rw [flatE_cons, List.length_append, ih, List.length_cons]; show 4 + _ = _; omega
theorem flatE_at : ∀ (l : List En) (i : Nat) (h : i < l.length), (flatE l)[i * 4]? = some (.int .i64 (l[i]).b) ∧ (flatE l)[i * 4 + 1]? = some (.int .i64 (l[i]).d) ∧ (flatE l)[i * 4 + 2]? = some (.int .i64 (l[i]).s) ∧ (flatE l)[i * 4 + 3]? = some (.int .i64 (l[i]).i)
  | [], i, h => by simp at h
  | x :: r, 0, h => ⟨rfl, rfl, rfl, rfl⟩
  | x :: r, i + 1, h => by
    have ih := flatE_at r i (by simpa using h)
    have e : ∀ c, (flatE (x :: r))[(i + 1) * 4 + c]? = (flatE r)[i * 4 + c]? := by
      intro c
      rw [show (i + 1) * 4 + c = i * 4 + c + 4 by omega]
      rfl
    have e0 := e 0
    rw [Nat.add_zero, Nat.add_zero] at e0
    rw [e0, e 1, e 2, e 3]
    exact ih
theorem flatE_get' (l : List En) (q r : Nat) (hq : q < l.length) (hr : r < 4) : (flatE l)[q * 4 + r]? = some ((encE (l.toArray[q]!))[r]!) := by
  have ha := flatE_at l q hq
  have hl : l.toArray[q]! = l[q] := by
    rw [getElem!_pos _ _ (by simpa using hq)]; simp
  rw [hl]
  match r, hr with
  | 0, _ => exact ha.1
  | 1, _ => exact ha.2.1
  | 2, _ => exact ha.2.2.1
  | 3, _ => exact ha.2.2.2
theorem flatE_get {l : List En} {t : Nat} (h : t < l.length * 4) : (flatE l)[t]? = some ((encE (l.toArray[t / 4]!))[t % 4]!) := by
  have := flatE_get' l (t / 4) (t % 4) (by omega) (by omega)
  rwa [show t / 4 * 4 + t % 4 = t by omega] at this
theorem flatE_one {l : List En} : ∀ v ∈ flatE l, v.oneCell' = true := by
  intro v hv
  unfold flatE at hv
  obtain ⟨x, _, hx⟩ := List.mem_flatMap.1 hv
  simp [encE] at hx
  rcases hx with rfl | rfl | rfl | rfl <;> rfl

/-- copy of elements of k cells into a row that is known whole. -/
theorem run_copy_k {P : Program} (w : World) (dT sT ty elem : TypeId) (k g dLen dCap : Nat) (a : Addr) (sLen sCap : Nat) (cur : Array Value) (t : TypeId) (cs : List Value)
    (hu : P.underlying dT = some (.slice elem)) (hs : (P.info? elem).map (·.size) = some k)
    (hg : w.heap[g]? = some (.cells cur t (0, 0))) (hn : cs.length = Nat.min sLen dLen * k)
    (hsrc : ∀ j v, cs[j]? = some v → w.cell? (a.add j) = some v) (hfit : cs.length = cur.size) (h1 : ∀ v ∈ cs, v.oneCell' = true) :
    (Builtin.copy_ #[dT, sT] ty #[.slice (some ⟨g, 0, none⟩) dLen dCap, .slice (some a) sLen sCap]).run P w = .ok (goInt (Nat.min sLen dLen)) (w.setRow g cs.toArray) := by
  have hl := run_loadCells_list (P := P) w a cs hsrc
  have hst := run_storeCells_at P g 0 t cs 0 cur w hg (by omega) h1
  have e : (cur.toList.take (0 + 0) ++ cs ++ cur.toList.drop (0 + 0 + cs.length)).toArray = cs.toArray := by
    rw [hfit]; simp
  rw [e] at hst
  cases hq : P.info? elem with
  | none => simp [hq] at hs
  | some i =>
    have hi : i.size = k := by simpa [hq] using hs
    simp [Builtin.copy_, run_underlying hu, Builtin.lenOf, Builtin.firstCells, sizeOf, typeInfo, hq, hi, ← hn, hl, hst]
theorem wpList_copy_k {P : Program} {w : World} {ops : Array Oper} {rest : List Oper} {o : Oper} {a : Act} {Q : Exit → Act → World → Prop} (hgd : o.guard = none) (d s : Operand) (dT sT : TypeId)
    (ho : o.op = .call { callee := .builtin .copy, args := #[d, s], argTypes := #[dT, sT] }) (dv sv : Value) (hd : a.eval d = dv) (hs : a.eval s = sv) (n : Int) (w' : World)
    (hrun : (Builtin.copy_ #[dT, sT] o.type #[dv, sv]).run P w = .ok (.int .i64 n) w')
    (h : wpList P ops Q rest (a.put o.dst (.int .i64 n)) w') : wpList P ops Q (o :: rest) a w := by
  refine wpList_plain hgd fun K hK => ?_
  unfold Oper.wp
  simp [execOp, ho, resolve, invoke, builtin, hd, hs, hrun, Result.andThen]
  exact hK _ _ h

theorem infoE : (Try.prog.info? 32).map (fun i => (i.zero, i.size, i.bytes)) = some (some (.agg #[.int .i64 0, .int .i64 0, .int .i64 0, .int .i64 0]), 4, 32) := by kernel_rfl
theorem info_parts' {e : TypeId} {z : Value} {m n : Nat} (h : (Try.prog.info? e).map (fun i => (i.zero, i.size, i.bytes)) = some (some z, m, n)) : ∃ i, Try.prog.info? e = some i ∧ i.zero = some z ∧ i.size = m ∧ i.bytes = n := by
  simp only [Option.map_eq_some_iff, Prod.mk.injEq] at h
  obtain ⟨i, h1, h2, h3, h4⟩ := h
  exact ⟨i, h1, h2, h3, h4⟩
theorem sizeE : (Try.prog.info? 32).map (·.size) = some 4 := by kernel_rfl

/-- A list of entries in a block. -/
def ListAt (w : World) (g : Nat) (l : List En) : Prop := g < w.heap.size ∧ ∀ j v, (flatE l)[j]? = some v → w.cell? ⟨g, j, none⟩ = some v
theorem ListAt.next {w w' : World} {g : Nat} {l : List En} (h : ListAt w g l) (hb : Below w.heap.size w w') : ListAt w' g l :=
  ⟨Nat.lt_of_lt_of_le h.1 hb.size, fun j v hj => by rw [hb.cell (by exact h.1)]; exact h.2 j v hj⟩
theorem add0 (g j : Nat) : (⟨g, 0, none⟩ : Addr).add j = ⟨g, j, none⟩ := by unfold Addr.add; split <;> simp_all

theorem made_size (Z : Array Value) (n : Nat) : (madeCells Z n).size = n := size_madeCells _ _
end Go.Proofs.Ytiighhcilgjebaa
