/-
  What the laws of layer 5 share: of, wakes.
-/
import Derived.Test.YtccjahlpakiadaaIPush
namespace Go.Proofs.Ytccjahlpakiadaa.I
set_option maxRecDepth 100000
open Go.RowKit Go.Sort

theorem of_any (x : En) (w : World) :
    Calls Try.prog 12 #[entV x] w fun e w' => e = .returned (entV x) ∧ More w w' := by
  unfold entV
  go_enter Try.func12, Try.ntmps12
  go_wp2
  exact bodyPost_ret (v := .agg #[.int .i64 x.b, .int .i64 x.d, .int .i64 x.s, .int .i64 x.i]) (by simp [results, Try.results12, go_sem]) rfl ⟨rfl, ((More.refl w).alloc _).alloc _⟩
theorem listAt_block {w : World} {g : Nat} {l : List En} {c : Array Value} {t : TypeId} {f : Nat × Nat} (h : w.heap[g]? = some (.cells c t f)) (hc : c = (flatE l).toArray) : ListAt w g l := by
  subst hc
  refine ⟨(Array.getElem?_eq_some_iff.1 h).1, fun j v hj => ?_⟩
  rw [cell_of h]
  simpa using hj
/-- An entry with a number alone. -/
def idE (i : Int) : En := ⟨0, 0, 0, i⟩
theorem srt_wakes {l : List En} (h : l.Perm ([idE 2, idE 7, idE 5] ++ [idE 1])) : srt l = [idE 1, idE 2, idE 5, idE 7] := by
  refine (srt_unique (l := l) (m := [idE 1, idE 2, idE 5, idE 7]) (List.Perm.trans ?_ h.symm) ?_).symm
  · show List.Perm _ [idE 2, idE 7, idE 5, idE 1]
    generalize idE 1 = a
    generalize idE 2 = b
    generalize idE 5 = c
    generalize idE 7 = d
    refine List.Perm.trans (List.Perm.swap b a _) (List.Perm.cons b ?_)
    refine List.Perm.trans (List.perm_append_comm (l₁ := [a, c]) (l₂ := [d])) (List.Perm.cons d ?_)
    exact List.Perm.swap c a []
  · unfold Srt eltP idE
    simp
/-- A variable of an entry, behind a pop. -/
theorem wakes_any (w : World) : Calls Try.prog 10 #[] w fun e w' => e = .returned (.bool true) ∧ Below w.heap.size w w' := by
  have B0 : Below w.heap.size w (w.alloc (.cells #[.int .i64 0, .int .i64 0, .int .i64 0, .int .i64 2, .int .i64 0, .int .i64 0, .int .i64 0, .int .i64 7, .int .i64 0, .int .i64 0, .int .i64 0, .int .i64 5] 39)) := (Below.refl _ _).alloc (Nat.le_refl _) _
  have BU := build_any [idE 2, idE 7, idE 5] (by simp) (.slice (some ⟨w.heap.size, 0, none⟩) 3 3) _ (.inr ⟨w.heap.size, 3, rfl, listAt_block (heap_alloc_new w (.cells #[.int .i64 0, .int .i64 0, .int .i64 0, .int .i64 2, .int .i64 0, .int .i64 0, .int .i64 0, .int .i64 7, .int .i64 0, .int .i64 0, .int .i64 0, .int .i64 5] 39)) rfl⟩)
  have HZ0 : Hid (w.heap.size ≤ (w.alloc (.cells #[.int .i64 0, .int .i64 0, .int .i64 0, .int .i64 2, .int .i64 0, .int .i64 0, .int .i64 0, .int .i64 7, .int .i64 0, .int .i64 0, .int .i64 0, .int .i64 5] 39)).heap.size) := B0.size
  have HB0 := Lib.hid B0
  clear B0
  go_enter Try.func10, Try.ntmps10
  go_wp2_with fail
  with_reducible refine BU.mono ?_
  rintro e w1 ⟨hb, v1, l1, rfl, ha1, p1, r1, b1⟩
  have B1 := HB0.out.trans (b1.mono HZ0.out)
  have hge : w.heap.size ≤ hb := Nat.le_trans HZ0.out ha1.ge
  have ha1' := ha1.mono HZ0.out
  have hl1 : l1.length = 3 := p1.length_eq
  have PU := push_any l1 (by omega) w.heap.size hb v1 (idE 1) w1 ha1' r1
  have HB1 := Lib.hid B1
  have HV1 : Hid (∀ q, v1.ownBlock = some q → w.heap.size ≤ q) := fun q hq => (ha1'.row.lt q hq).1
  have HP1 := Lib.hid p1
  clear BU ha1 p1 r1 b1 HB0 HZ0 B1 ha1' hl1
  unfold entV idE at PU
  go_wp2_with fail
  with_reducible refine PU.mono ?_
  rintro e w2 ⟨v2, l2, rfl, ha2, o2, r2, p2, q2⟩
  have hs := srt_wakes (p2.trans (HP1.out.append_right _))
  have B2 := HB1.out.trans (o2.under hge HV1.out HB1.out.size)
  have hl2 : l2.length = 4 := by have := srt_length l2; rw [hs] at this; simpa using this.symm
  have PM := popMin_any l2 (by omega) (by omega) w.heap.size hb v2 w2 ha2 r2
  have HM := Lib.hid fun m hm => r2.min (m := m) hm
  have HB2 := Lib.hid B2
  have HS := Lib.hid hs
  have HV2 : Hid (∀ q, v2.ownBlock = some q → w.heap.size ≤ q) := fun q hq => (ha2.row.lt q hq).1
  have HA2 := Lib.hid ha2
  clear ha2 o2 r2 p2 q2 PU HB1 HP1 HV1 hs B2 hl2
  go_wp2_with fail
  with_reducible refine PM.mono ?_
  rintro e w3 ⟨he3, v3, l3, ha3, o3, r3, p3, q3⟩
  have hm := HM.out l3 p3
  rw [HS.out] at hm
  simp only [List.cons.injEq] at hm
  obtain ⟨hx, hs3⟩ := hm
  rw [← hx] at he3
  subst he3
  have B3 := HB2.out.trans (o3.under hge HV2.out HB2.out.size)
  have hl3 : l3.length = 3 := by have := srt_length l3; rw [← hs3] at this; simpa using this.symm
  have n3 := heap_alloc_new w3 (.cells #[.int .i64 0, .int .i64 0, .int .i64 0, .int .i64 1] 39)
  have ha3' := ha3.next (w' := w3.alloc (.cells #[.int .i64 0, .int .i64 0, .int .i64 0, .int .i64 1] 39)) ((Below.refl _ _).alloc (Nat.le_refl _) _)
  have PX := popMax_any l3 (by omega) (by omega) w.heap.size hb v3 _ ha3' r3
  have HX := Lib.hid fun m hm => r3.max (m := m) hm
  have HB3 := Lib.hid (B3.alloc B3.size (.cells #[.int .i64 0, .int .i64 0, .int .i64 0, .int .i64 1] 39))
  have HS3 := Lib.hid hs3
  have HN3 := Lib.hid n3
  have HV3 : Hid (∀ q, v3.ownBlock = some q → w.heap.size ≤ q ∧ q < w3.heap.size) := fun q hq => ha3.row.lt q hq
  have hlt3 := ha3.lt
  clear PM ha3 o3 r3 p3 q3 HM HB2 HS HV2 HA2 hx hs3 B3 hl3 n3 ha3'
  unfold entV idE
  go_wp2_with fail
  with_reducible refine PX.mono ?_
  rintro e w4 ⟨he4, v4, l4, ha4, o4, r4, p4, q4⟩
  have hm := HX.out l4 p4
  rw [← HS3.out] at hm
  have hm2 : [idE 2, idE 5] ++ [idE 7] = srt l4 ++ [nth l3 (lastP l3)] := hm
  obtain ⟨hs4, hx4⟩ := List.append_inj' hm2 rfl
  simp only [List.cons.injEq, and_true] at hx4
  rw [← hx4] at he4
  subst he4
  have hsz3 : w3.heap.size < (w3.alloc (.cells #[.int .i64 0, .int .i64 0, .int .i64 0, .int .i64 1] 39)).heap.size := by simp
  have B4 := HB3.out.trans (o4.under hge (fun q hq => (HV3.out q hq).1) HB3.out.size)
  have hl4 : l4.length = 2 := by have := srt_length l4; rw [← hs4] at this; simpa using this.symm
  have n3 := (o4.block w3.heap.size hsz3 (by omega) (fun e => by have := (HV3.out _ e).2; omega)).trans HN3.out
  obtain ⟨_, _, _, a3, _, _, _, _, az⟩ := cells4 n3
  have LN := fun W (h : Below w4.heap.size w4 W) => len_any W w.heap.size hb v4 l4 (ha4.next h)
  have LI := fun W (h : Below w4.heap.size w4 W) => list_any W w.heap.size hb v4 l4 (by omega) (ha4.next h)
  unfold IsCopied at LI
  rw [hl4] at LN LI
  have LN1 := LN _ ((Below.refl w4.heap.size w4).alloc (Nat.le_refl _) (.cells #[.int .i64 0, .int .i64 0, .int .i64 0, .int .i64 7] 39))
  have LI1 := LI _ ((Below.refl w4.heap.size w4).alloc (Nat.le_refl _) (.cells #[.int .i64 0, .int .i64 0, .int .i64 0, .int .i64 7] 39))
  have HB4 := Lib.hid (B4.alloc B4.size (.cells #[.int .i64 0, .int .i64 0, .int .i64 0, .int .i64 7] 39))
  clear PX ha4 o4 r4 p4 q4 HX HB3 HS3 HN3 HV3 hm hm2 hs4 hx4 B4 hl4 n3 LN LI hsz3
  unfold entV idE
  go_wp2_with (first | (go_at_call 18; (with_reducible refine LN1.mono ?_); rintro e w' ⟨rfl, rfl⟩) | fail)
  with_reducible refine LI1.mono ?_
  rintro e w5 ⟨rfl, _, b5⟩
  have HB5 := Lib.hid (HB4.out.trans (b5.mono HB4.out.size))
  clear LN1 LI1 b5 HB4
  go_wp2
  go_ret
  exact ⟨rfl, HB5.out⟩
end Go.Proofs.Ytccjahlpakiadaa.I
