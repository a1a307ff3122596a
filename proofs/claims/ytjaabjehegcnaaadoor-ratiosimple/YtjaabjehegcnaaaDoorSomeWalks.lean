/-
  What the laws' 'some' does: the ratio of the two numbers as they are, and the good one of them, if there is one, in a list of their own.
-/
import Derived.Test.YtjaabjehegcnaaaDoorRatioWalks
import Derived.Laws.OwnMore
namespace Go.Proofs.YtjaabjehegcnaaaDoor
set_option maxRecDepth 100000
open Go.RowKit

/-- The ratios that the laws speak of. -/
def somes (a b : Int) : List (Int × Int) := (a, b) :: (if mkB a b = true then [(mkN a b, mkD a b)] else [])
def cellsR (l : List (Int × Int)) : List Value := l.flatMap fun x => [.int .i64 x.1, .int .i64 x.2]
/-- A list of ratios in a block. -/
structure RList (w : World) (g : Nat) (l : List (Int × Int)) : Prop where
  mk ::
  size : g < w.heap.size
  at0 : ∀ i (h : i < l.length), w.cell? ⟨g, i * 2, none⟩ = some (.int .i64 (l[i]).1)
  at1 : ∀ i (h : i < l.length), w.cell? ⟨g, i * 2 + 1, none⟩ = some (.int .i64 (l[i]).2)
  ok : ∀ x ∈ l, I64 x.1 ∧ I64 x.2
theorem RList.below {w w' : World} {g : Nat} {l : List (Int × Int)} (h : RList w g l) (hb : Below w.heap.size w w') : RList w' g l :=
  ⟨Nat.lt_of_lt_of_le h.size hb.size, fun i hi => by rw [hb.cell (by exact h.size)]; exact h.at0 i hi, fun i hi => by rw [hb.cell (by exact h.size)]; exact h.at1 i hi, h.ok⟩

theorem RList.get {w : World} {g i : Nat} {l : List (Int × Int)} (h : RList w g l) (hi : i < l.length) : ∃ p q, w.cell? ⟨g, i * 2, none⟩ = some (.int .i64 p) ∧ w.cell? ⟨g, i * 2 + 1, none⟩ = some (.int .i64 q) ∧ I64 p ∧ I64 q :=
  ⟨_, _, h.at0 i hi, h.at1 i hi, h.ok _ (List.getElem_mem hi)⟩

theorem infoR : (Tryd.prog.info? 23).map (fun i => (i.zero, i.size, i.bytes)) = some (some (.agg #[.int .i64 0, .int .i64 0]), 2, 16) := by kernel_rfl

theorem info_parts' {e : TypeId} {z : Value} {m n : Nat} (h : (Tryd.prog.info? e).map (fun i => (i.zero, i.size, i.bytes)) = some (some z, m, n)) : ∃ i, Tryd.prog.info? e = some i ∧ i.zero = some z ∧ i.size = m ∧ i.bytes = n := by
  simp only [Option.map_eq_some_iff, Prod.mk.injEq] at h
  obtain ⟨i, h1, h2, h3, h4⟩ := h
  exact ⟨i, h1, h2, h3, h4⟩
theorem heap_two (w : World) (o1 o2 : Obj) : ((w.alloc o1).alloc o2).heap[w.heap.size + 1]? = some o2 := by
  have h := heap_alloc_new (w.alloc o1) o2
  rwa [World.size_alloc] at h
theorem own_below {w w' : World} {base g : Nat} {a b : Int} (h : w.heap[g]? = some (.cells #[.int .i64 a, .int .i64 b] 23 (0, 0))) (hg : base ≤ g) (hb : Below w.heap.size w w') :
    w'.ownsRow base 23 2 (.slice (some ⟨g, 0, none⟩) 1 1) 1 [.int .i64 a, .int .i64 b] := by
  have hlt : g < w.heap.size := by
    rcases Nat.lt_or_ge g w.heap.size with h' | h'
    · exact h'
    · rw [Array.getElem?_eq_none h'] at h; cases h
  exact ⟨rfl, .inr ⟨g, 1, _, rfl, hg, (hb.block g hlt).trans h, by omega, by unfold maxLen; omega, rfl, rfl⟩⟩
theorem rlist_of_owns {w : World} {base : Nat} {v : Value} {l : List (Int × Int)} (h0 : l ≠ []) (hl : ∀ x ∈ l, I64 x.1 ∧ I64 x.2) (h : w.ownsRow base 23 2 v l.length (cellsR l)) :
    ∃ g k, v = .slice (some ⟨g, 0, none⟩) l.length k ∧ l.length ≤ k ∧ k ≤ maxLen ∧ RList w g l := by
  have hc : ∀ (l : List (Int × Int)) (i : Nat) (h : i < l.length), (cellsR l)[i * 2]? = some (.int .i64 (l[i]).1) ∧ (cellsR l)[i * 2 + 1]? = some (.int .i64 (l[i]).2) := by
    intro l
    induction l with
    | nil => intro i h; simp at h
    | cons x r ih =>
      intro i h
      cases i with
      | zero => exact ⟨rfl, rfl⟩
      | succ i =>
        have := ih i (by simpa using h)
        have e1 : (cellsR (x :: r))[(i + 1) * 2]? = (cellsR r)[i * 2]? := by
          rw [show (i + 1) * 2 = i * 2 + 1 + 1 by omega]; rfl
        have e2 : (cellsR (x :: r))[(i + 1) * 2 + 1]? = (cellsR r)[i * 2 + 1]? := by
          rw [show (i + 1) * 2 + 1 = i * 2 + 1 + 1 + 1 by omega]; rfl
        rw [e1, e2]
        exact this
  have hh := h
  obtain ⟨h1, ⟨h2, h3⟩ | ⟨g, cap, cur, h2, h3, h4, h5, h6, h7, h8⟩⟩ := h
  · exact absurd (List.eq_nil_of_length_eq_zero h3) h0
  · subst h2
    refine ⟨g, cap, rfl, h5, h6, ⟨(Array.getElem?_eq_some_iff.1 h4).1, fun i hi => ?_, fun i hi => ?_, hl⟩⟩
    · rw [World.ownsRow.cellAt hh _ (by omega)]; exact (hc l i hi).1
    · rw [World.ownsRow.cellAt hh _ (by omega)]; exact (hc l i hi).2

def IsSome (l : List (Int × Int)) (w : World) (e : Ending) (w' : World) : Prop := (∃ g k, e = .returned (.slice (some ⟨g, 0, none⟩) l.length k) ∧ l.length ≤ k ∧ k ≤ maxLen ∧ RList w' g l) ∧ Below w.heap.size w w'

set_option maxHeartbeats 1000000 in
theorem some_no (a b : Int) (ha : I64 a) (hb : I64 b) (h : mkB a b = false) (w : World) :
    Calls Tryd.prog 17 #[.agg #[.int .i64 a, .int .i64 b]] w (IsSome [(a, b)] w) := by
  have M := make_any a b ha hb
  unfold mkV at M
  rw [h] at M
  clear h
  go_enter Tryd.func17, Tryd.ntmps17
  go_wp2_with fail
  with_reducible refine (M _).mono ?_
  rintro e w1 ⟨rfl, b1⟩
  have B1 : Below w.heap.size w w1 := on (((Below.refl _ _).alloc (Nat.le_refl _) _).alloc (by simp) _) b1
  have hO := own_below (base := w.heap.size) (g := w.heap.size + 1) (a := a) (b := b) (heap_two w _ _) (by omega) b1
  have hR := rlist_of_owns (l := [(a, b)]) (by simp) (by simp [ha, hb]) (hO.alloc (.cells #[.int .i64 (mkN a b), .int .i64 (mkD a b)] 23))
  have HR := Lib.hid hR
  have HB := Lib.hid (B1.alloc B1.size (.cells #[.int .i64 (mkN a b), .int .i64 (mkD a b)] 23))
  clear hR hO B1 b1
  go_wp2
  go_ret
  obtain ⟨g, k, h1, h2, h3, h4⟩ := HR.out
  refine ⟨⟨g, k, ?_, h2, h3, h4⟩, HB.out⟩
  rw [← h1]; rfl

set_option maxHeartbeats 1000000 in
theorem some_yes (a b : Int) (ha : I64 a) (hb : I64 b) (h : mkB a b = true) (w : World) :
    Calls Tryd.prog 17 #[.agg #[.int .i64 a, .int .i64 b]] w (IsSome [(a, b), (mkN a b, mkD a b)] w) := by
  have M := make_any a b ha hb
  unfold mkV at M
  rw [h] at M
  have hi2 := mk_in a b
  obtain ⟨p, hp⟩ : ∃ p, mkN a b = p := ⟨_, rfl⟩
  obtain ⟨q, hq⟩ : ∃ q, mkD a b = q := ⟨_, rfl⟩
  rw [hp, hq] at M hi2 ⊢
  clear h hp hq
  obtain ⟨i0, hi, hz0, hz1, hz2⟩ := info_parts' infoR
  go_enter Tryd.func17, Tryd.ntmps17
  go_wp2_with fail
  with_reducible refine (M _).mono ?_
  rintro e w1 ⟨rfl, b1⟩
  have B1 : Below w.heap.size w w1 := on (((Below.refl _ _).alloc (Nat.le_refl _) _).alloc (by simp) _) b1
  have hO := own_below (base := w.heap.size) (g := w.heap.size + 1) (a := a) (b := b) (heap_two w _ _) (by omega) b1
  have hO1 := hO.alloc (.cells #[.int .i64 p, .int .i64 q] 23)
  have hO2 := hO1.alloc (.cells #[.int .i64 p, .int .i64 q] 23)
  have s1 := B1.size
  have B2 := (B1.alloc B1.size (.cells #[.int .i64 p, .int .i64 q] 23)).alloc (by simp; omega) (.cells #[.int .i64 p, .int .i64 q] 23)
  clear b1 hO hO1 B1
  go_wp2_with (at_builtin; refine wpList_append_own _ rfl _ _ 32 rfl w.heap.size 23 i0 (.agg #[.int .i64 0, .int .i64 0]) 2 16 Tryd.underlying32 hi hz0 hz1 hz2 rfl (by decide) _ _ _ rfl hO2 ⟨w1.heap.size + 1, 0, none⟩ 1 1 [.int .i64 p, .int .i64 q] rfl rfl ?c1 ?c2 ?c3 ?c4 ?c5 ?_)
  case c1 =>
    intro j v hj
    match j, hj with
    | 0, hj => simp at hj; subst hj; simp [Addr.add, go_sem]
    | 1, hj => simp at hj; subst hj; simp [Addr.add, go_sem]
  case c2 => intro v hv; simp at hv; rcases hv with rfl | rfl <;> rfl
  case c3 => unfold maxLen; omega
  case c4 => omega
  case c5 => simp; omega
  · intro v' w' hown' hgrow _
    have hR := rlist_of_owns (l := [(a, b), (p, q)]) (by simp) (by simp [ha, hb, hi2]) hown'
    have hB := B2.grown hgrow (by simp; omega) (fun g hg => by simp [Value.ownBlock] at hg; omega)
    have HR := Lib.hid hR
    have HB := Lib.hid hB
    clear hR hB hown' hgrow hO2 B2
    go_wp2
    go_ret
    obtain ⟨g, k, h1, h2, h3, h4⟩ := HR.out
    refine ⟨⟨g, k, ?_, h2, h3, h4⟩, HB.out⟩
    rw [← h1]; rfl

theorem somes_no {a b : Int} (h : mkB a b = false) : somes a b = [(a, b)] := by unfold somes; rw [h]; simp
theorem somes_yes {a b : Int} (h : mkB a b = true) : somes a b = [(a, b), (mkN a b, mkD a b)] := by unfold somes; rw [h]; simp
theorem some_any (a b : Int) (ha : I64 a) (hb : I64 b) (w : World) :
    Calls Tryd.prog 17 #[.agg #[.int .i64 a, .int .i64 b]] w (IsSome (somes a b) w) := by
  by_cases h : mkB a b = true
  · rw [somes_yes h]; exact some_yes a b ha hb h w
  · have h' : mkB a b = false := by simpa using h
    rw [somes_no h']; exact some_no a b ha hb h' w
theorem somes_len (a b : Int) : 1 ≤ (somes a b).length ∧ (somes a b).length ≤ 2 := by
  unfold somes
  split <;> simp
end Go.Proofs.YtjaabjehegcnaaaDoor
