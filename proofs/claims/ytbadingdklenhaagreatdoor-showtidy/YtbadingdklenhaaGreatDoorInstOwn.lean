/-
  append of a whole list to none, and package inst's own, of its five types (layer 9). Written by tools/geninstown.py.
-/
import Derived.Test.YtbadingdklenhaaGreatDoorInstKit
namespace Go.Proofs.YtbadingdklenhaaGreatDoor
set_option maxRecDepth 100000
open Go.RowKit

section
variable {P : Program} (w : World)
/-- append(none, list...). -/
theorem run_own (t ty e : TypeId) (i : TypeInfo) (z : Value) (size bytes : Nat) (ht : P.underlying t = some (.slice e)) (hi : P.info? e = some i) (hz : i.zero = some z)
    (hsize : i.size = size) (hby : i.bytes = bytes) (hzs : z.cells.size = size) (hsz : 0 < size) (hb : bytes ≤ 1000)
    (F : Nat → Prop) (u : Value) (n : Nat) (cs : List Value) (h : Lies F w u n cs) (hl : cs.length = n * size) (h1 : ∀ v ∈ cs, v.oneCell' = true) (hn : n ≤ 4096) :
    ∃ A C w', (Builtin.append_ #[t, t] ty #[.slice none 0 0, u]).run P w = .ok (.slice A n C) w' ∧ w'.ownsRow w.heap.size e size (.slice A n C) n cs ∧ Below w.heap.size w w' ∧ n ≤ C ∧ C ≤ maxLen := by
  obtain ⟨A, C, rfl, hC, hM, hc⟩ := h
  by_cases h0 : 0 < n
  · obtain ⟨b, off, rfl, _, _, hcell⟩ := hc h0
    obtain ⟨g, cap, w', hr, hown, hgrow, hat, hlt⟩ := run_append_lies (P := P) w t ty w.heap.size e i z size bytes ht hi hz hsize hby hzs hsz (.slice none 0 0) 0 [] (World.ownsRow_nil _ _ _ _) ⟨b, off, none⟩ n C cs hl
      (fun j u hu => by rw [addr_plain]; exact hcell j u hu) h1 h0 (by unfold maxLen; omega) (by have := Nat.mul_le_mul hn hb; rw [Nat.zero_add]; omega) (Nat.le_refl _) w.heap.size rfl
    rw [Nat.zero_add, List.nil_append] at hown
    rw [Nat.zero_add] at hr
    refine ⟨_, _, w', hr, hown, (Below.refl _ _).grown hgrow (Nat.le_refl _) (fun k hk => by simp [Value.ownBlock] at hk), ?_, ?_⟩
    · rcases hown.2 with ⟨hv, _⟩ | ⟨g', cap', cur, hv, hb, hg, hnc, hmc, rest⟩
      · cases hv
      · simp only [Value.slice.injEq] at hv
        omega
    · rcases hown.2 with ⟨hv, _⟩ | ⟨g', cap', cur, hv, hb, hg, hnc, hmc, rest⟩
      · cases hv
      · simp only [Value.slice.injEq] at hv
        omega
  · obtain rfl : n = 0 := by omega
    obtain rfl : cs = [] := List.eq_nil_of_length_eq_zero (by omega)
    refine ⟨none, 0, w, ?_, World.ownsRow_nil _ _ _ _, Below.refl _ _, Nat.le_refl _, by unfold maxLen; omega⟩
    cases A with
    | none => simp [Builtin.append_, run_underlying ht, sizeOf, typeInfo, hi, Builtin.lenOf, Builtin.firstCells]
    | some a => simp [Builtin.append_, run_underlying ht, sizeOf, typeInfo, hi, Builtin.lenOf, Builtin.firstCells, loadCells, loadCellsFrom]

theorem wp_own {o : Oper} {a : Act} {K : Act → World → Prop} {Q : Exit → Act → World → Prop} (s x : Operand) (t : TypeId)
    (ho : o.op = .call { callee := .builtin .append, args := #[s, x], argTypes := #[t, t] })
    (e : TypeId) (i : TypeInfo) (z : Value) (size bytes : Nat) (ht : P.underlying t = some (.slice e)) (hi : P.info? e = some i) (hz : i.zero = some z)
    (hsize : i.size = size) (hby : i.bytes = bytes) (hzs : z.cells.size = size) (hsz : 0 < size) (hb : bytes ≤ 1000)
    (F : Nat → Prop) (u : Value) (n : Nat) (cs : List Value) (hs : a.eval s = .slice none 0 0) (hx : a.eval x = u) (h : Lies F w u n cs) (hl : cs.length = n * size) (h1 : ∀ v ∈ cs, v.oneCell' = true) (hn : n ≤ 4096)
    (hk : ∀ A C w', w'.ownsRow w.heap.size e size (.slice A n C) n cs → Below w.heap.size w w' → n ≤ C → C ≤ maxLen → K (a.put o.dst (.slice A n C)) w') : o.wp P a w K Q := by
  obtain ⟨A, C, w', hr, h2, h3, h4, h5⟩ := run_own (P := P) w t o.type e i z size bytes ht hi hz hsize hby hzs hsz hb F u n cs h hl h1 hn
  unfold Oper.wp execOp
  simp only [ho, resolve, invoke, builtin, Sem.run_bind, Sem.run_pure, Result.andThen_ok, List.map_toArray, List.map_cons, List.map_nil, hs, hx, hr]
  exact hk A C w' h2 h3 h4 h5
theorem wpList_own {ops : Array Oper} {rest : List Oper} {o : Oper} {a : Act} {Q : Exit → Act → World → Prop} (hgd : o.guard = none) (s x : Operand) (t : TypeId)
    (ho : o.op = .call { callee := .builtin .append, args := #[s, x], argTypes := #[t, t] })
    (e : TypeId) (i : TypeInfo) (z : Value) (size bytes : Nat) (ht : P.underlying t = some (.slice e)) (hi : P.info? e = some i) (hz : i.zero = some z)
    (hsize : i.size = size) (hby : i.bytes = bytes) (hzs : z.cells.size = size) (hsz : 0 < size) (hb : bytes ≤ 1000)
    (F : Nat → Prop) (u : Value) (n : Nat) (cs : List Value) (hs : a.eval s = .slice none 0 0) (hx : a.eval x = u) (h : Lies F w u n cs) (hl : cs.length = n * size) (h1 : ∀ v ∈ cs, v.oneCell' = true) (hn : n ≤ 4096)
    (hk : ∀ A C w', w'.ownsRow w.heap.size e size (.slice A n C) n cs → Below w.heap.size w w' → n ≤ C → C ≤ maxLen → wpList P ops Q rest (a.put o.dst (.slice A n C)) w') : wpList P ops Q (o :: rest) a w :=
  wpList_plain hgd fun _ hK => wp_own w s x t ho e i z size bytes ht hi hz hsize hby hzs hsz hb F u n cs hs hx h hl h1 hn fun A C w' h2 h3 h4 h5 => hK _ _ (hk A C w' h2 h3 h4 h5)
theorem step_own {ops : Array Oper} {o : Oper} {a : Act} {K : Act → World → Prop} {Q : Exit → Act → World → Prop} {E : Prop} (hgd : o.guard = none) (s x : Operand) (t : TypeId)
    (ho : o.op = .call { callee := .builtin .append, args := #[s, x], argTypes := #[t, t] })
    (e : TypeId) (i : TypeInfo) (z : Value) (size bytes : Nat) (ht : P.underlying t = some (.slice e)) (hi : P.info? e = some i) (hz : i.zero = some z)
    (hsize : i.size = size) (hby : i.bytes = bytes) (hzs : z.cells.size = size) (hsz : 0 < size) (hb : bytes ≤ 1000)
    (F : Nat → Prop) (u : Value) (n : Nat) (cs : List Value) (hs : a.eval s = .slice none 0 0) (hx : a.eval x = u) (h : Lies F w u n cs) (hl : cs.length = n * size) (h1 : ∀ v ∈ cs, v.oneCell' = true) (hn : n ≤ 4096)
    (hk : ∀ A C w', w'.ownsRow w.heap.size e size (.slice A n C) n cs → Below w.heap.size w w' → n ≤ C → C ≤ maxLen → K (a.put o.dst (.slice A n C)) w') :
    if Region.wanted o (yielded ops a.tmps) = true then Oper.wp P o a w K Q else E := by
  have hw : Region.wanted o (yielded ops a.tmps) = true := by simp [Region.wanted, hgd]
  rw [if_pos hw]
  exact wp_own w s x t ho e i z size bytes ht hi hz hsize hby hzs hsz hb F u n cs hs hx h hl h1 hn hk
end

theorem info_of {e : TypeId} {z : Value} {m n : Nat} (h : (Tryz.prog.info? e).map (fun i => (i.zero, i.size, i.bytes)) = some (some z, m, n)) : ∃ i, Tryz.prog.info? e = some i ∧ i.zero = some z ∧ i.size = m ∧ i.bytes = n := by
  simp only [Option.map_eq_some_iff, Prod.mk.injEq] at h
  obtain ⟨i, h1, h2, h3, h4⟩ := h
  exact ⟨i, h1, h2, h3, h4⟩
theorem info_item : ∃ i, Tryz.prog.info? 70 = some i ∧ i.zero = some (.agg #[.int .i64 0, .int .i64 0]) ∧ i.size = 2 ∧ i.bytes = 16 := info_of (by kernel_rfl)
theorem info_row : ∃ i, Tryz.prog.info? 68 = some i ∧ i.zero = some (.slice none 0 0) ∧ i.size = 1 ∧ i.bytes = 24 := info_of (by kernel_rfl)
theorem info_num : ∃ i, Tryz.prog.info? 2 = some i ∧ i.zero = some (.int .i64 0) ∧ i.size = 1 ∧ i.bytes = 8 := info_of (by kernel_rfl)
theorem info_set : ∃ i, Tryz.prog.info? 71 = some i ∧ i.zero = some (.agg #[.int .i64 0, .slice none 0 0]) ∧ i.size = 2 ∧ i.bytes = 32 := info_of (by kernel_rfl)
theorem info_int : ∃ i, Tryz.prog.info? 3 = some i ∧ i.zero = some (.int .i64 0) ∧ i.size = 1 ∧ i.bytes = 8 := info_of (by kernel_rfl)
theorem nl_one {l : List Int} : ∀ v ∈ nl l, v.oneCell' = true := by
  intro v hv
  simp only [nl, List.mem_map] at hv
  obtain ⟨x, _, rfl⟩ := hv
  rfl
theorem fl2_one {l : List (Int × Int)} : ∀ v ∈ fl2 l, v.oneCell' = true := by
  intro v hv
  unfold fl2 at hv
  obtain ⟨x, _, hx⟩ := List.mem_flatMap.1 hv
  simp at hx
  rcases hx with rfl | rfl <;> rfl
/-- Each is a slice. -/
def Heads (us : List Value) : Prop := ∀ v ∈ us, ∃ A n C, v = .slice A n C
theorem heads_one {us : List Value} (h : Heads us) : ∀ v ∈ us, v.oneCell' = true := by
  intro v hv
  obtain ⟨A, n, C, rfl⟩ := h v hv
  rfl
theorem flS_one {l : List (Int × List Int)} {us : List Value} (h : Heads us) : ∀ v ∈ flS l us, v.oneCell' = true := by
  intro v hv
  unfold flS at hv
  obtain ⟨x, hx, hv⟩ := List.mem_flatMap.1 hv
  simp at hv
  rcases hv with rfl | rfl
  · rfl
  · obtain ⟨A, n, C, e⟩ := h _ (List.of_mem_zip hx).2
    rw [e]
    rfl
theorem Rws.heads {F G : Nat → Prop} {w : World} {u : Value} {R : List (List Int)} {us : List Value} (h : Rws F G w u R us) : Heads us := by
  intro v hv
  obtain ⟨i, hi, rfl⟩ := List.mem_iff_getElem.1 hv
  obtain ⟨A, C, e, _⟩ := (h.rows i _ _ (List.getElem?_eq_getElem (by rw [← h.len]; exact hi)) (List.getElem?_eq_getElem hi)).form
  exact ⟨_, _, _, e⟩
theorem Sts.heads {F G : Nat → Prop} {w : World} {u : Value} {R : List (Int × List Int)} {us : List Value} (h : Sts F G w u R us) : Heads us := by
  intro v hv
  obtain ⟨i, hi, rfl⟩ := List.mem_iff_getElem.1 hv
  obtain ⟨A, C, e, _⟩ := (h.rows i _ _ (List.getElem?_eq_getElem (by rw [← h.len]; exact hi)) (List.getElem?_eq_getElem hi)).form
  exact ⟨_, _, _, e⟩
/-- What an own answers. -/
def IsOwn (T : TypeId) (size n : Nat) (cs : List Value) (w : World) (e : Ending) (w' : World) : Prop := ∃ A C, e = .returned (.slice A n C) ∧ w'.ownsRow w.heap.size T size (.slice A n C) n cs ∧ Below w.heap.size w w' ∧ n ≤ C ∧ C ≤ maxLen

end Go.Proofs.YtbadingdklenhaaGreatDoor
