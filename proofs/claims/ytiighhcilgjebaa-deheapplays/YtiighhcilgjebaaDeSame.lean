/-
  What same of layer 7's laws tells of a list of the program's and the document's one with the same entries: true.
-/
import Derived.Test.YtiighhcilgjebaaRefHeap
import Derived.Test.YtiighhcilgjebaaDeList
namespace Go.Proofs.Ytiighhcilgjebaa
set_option maxRecDepth 100000
open Go.RowKit Go.Sort

theorem own_at {w : World} {B n c j : Nat} {t : TypeId} {p : Option Addr} {l : List En} (h : w.ownsRow B t 4 (.slice p n c) n (flatE l)) (hn : l.length = n) (hj : j < n) : ∃ g, p = some ⟨g, 0, none⟩ ∧ g < w.heap.size ∧ w.cell? ⟨g, j * 4, none⟩ = some (.int .i64 (nth l j).b) ∧ w.cell? ⟨g, j * 4 + 1, none⟩ = some (.int .i64 (nth l j).d) ∧ w.cell? ⟨g, j * 4 + 2, none⟩ = some (.int .i64 (nth l j).s) ∧ w.cell? ⟨g, j * 4 + 3, none⟩ = some (.int .i64 (nth l j).i) := by
  obtain ⟨g, c', e, _, hlt⟩ := h.form (by omega)
  simp only [Value.slice.injEq, true_and] at e
  obtain ⟨rfl, rfl⟩ := e
  exact ⟨g, rfl, hlt, (own_list h).nth (by omega)⟩
theorem doc_at {w : World} {n c j : Nat} {p : Option Addr} {l : List En} (h : DocL w (.slice p n c) l) (hn : l.length = n) (hj : j < n) : ∃ g off, p = some ⟨g, off, none⟩ ∧ g < w.heap.size ∧ w.cell? ⟨g, off + j * 4, none⟩ = some (.int .i64 (nth l j).b) ∧ w.cell? ⟨g, off + j * 4 + 1, none⟩ = some (.int .i64 (nth l j).d) ∧ w.cell? ⟨g, off + j * 4 + 2, none⟩ = some (.int .i64 (nth l j).s) ∧ w.cell? ⟨g, off + j * 4 + 3, none⟩ = some (.int .i64 (nth l j).i) := by
  obtain ⟨p', c', e, _, h3⟩ := h.at_
  simp only [Value.slice.injEq] at e
  obtain ⟨rfl, _, rfl⟩ := e
  obtain ⟨b, off, rfl, ⟨cur, f, hb⟩, hx⟩ := h3 (by omega)
  exact ⟨b, off, rfl, (Array.getElem?_eq_some_iff.1 hb).1, hx j (by omega)⟩
theorem doc_slice {w : World} {v : Value} {l : List En} (h : DocL w v l) : ∃ p c, v = .slice p l.length c := by
  obtain ⟨p, c, h1, _⟩ := h.at_
  exact ⟨p, c, h1⟩
/-- The entries of two lists at one place. -/
structure TwoAt (w : World) (g i h k : Nat) (x : En) (wr : World) : Prop where
  mk ::
  cs : wr.cell? ⟨g, i, none⟩ = some (.int .i64 x.b) ∧ wr.cell? ⟨g, i + 1, none⟩ = some (.int .i64 x.d) ∧ wr.cell? ⟨g, i + 2, none⟩ = some (.int .i64 x.s) ∧ wr.cell? ⟨g, i + 3, none⟩ = some (.int .i64 x.i) ∧
    wr.cell? ⟨h, k, none⟩ = some (.int .i64 x.b) ∧ wr.cell? ⟨h, k + 1, none⟩ = some (.int .i64 x.d) ∧ wr.cell? ⟨h, k + 2, none⟩ = some (.int .i64 x.s) ∧ wr.cell? ⟨h, k + 3, none⟩ = some (.int .i64 x.i)
  lt : g < wr.heap.size ∧ h < wr.heap.size
  B : Below w.heap.size w wr
theorem TwoAt.next {w wr w' : World} {g i h k : Nat} {x : En} (q : TwoAt w g i h k x wr) (m : Below wr.heap.size wr w') : TwoAt w g i h k x w' := by
  obtain ⟨⟨a, b, c, d, a', b', c', d'⟩, ⟨l1, l2⟩, B⟩ := q
  refine ⟨?_, ⟨Nat.lt_of_lt_of_le l1 m.size, Nat.lt_of_lt_of_le l2 m.size⟩, B.trans (m.mono B.size)⟩
  rw [m.cell (by exact l1), m.cell (by exact l1), m.cell (by exact l1), m.cell (by exact l1), m.cell (by exact l2), m.cell (by exact l2), m.cell (by exact l2), m.cell (by exact l2)]
  exact ⟨a, b, c, d, a', b', c', d'⟩
set_option maxHeartbeats 8000000 in
theorem same_any (l : List En) (n : Nat) (hn : l.length = n) (hl : n ≤ 100) (B : Nat) (v u : Value) (w : World) (h1 : w.ownsRow B 32 4 v n (flatE l)) (h2 : DocL w u l) :
    Calls Try.prog 15 #[v, u] w fun e w' => e = .returned (.bool true) ∧ Below w.heap.size w w' := by
  obtain ⟨p, c, rfl⟩ := own_slice h1
  obtain ⟨p', c', rfl⟩ := doc_slice h2
  rw [hn] at h2 ⊢
  have H1 := Lib.hid h1
  have H2 := Lib.hid h2
  have HN := Lib.hid hn
  clear h1 h2 hn
  go_enter Try.func15, Try.ntmps15
  go_wp2
  go_loopw [13] (fun i wr => ∃ j : Nat, j ≤ n ∧ i = .int .i64 (j : Int) ∧ Below w.heap.size w wr) (fun i _ => n - (intOf i).toNat)
  case atStart => exact ⟨0, by omega, rfl, Below.refl _ _⟩
  case round =>
    obtain ⟨j, hj, rfl, hb⟩ := hrel
    have HB := Lib.hid hb
    clear hb
    obtain ⟨w1, hw1⟩ : ∃ q, q = wr := ⟨wr, rfl⟩
    subst hw1
    by_cases hlt : j < n
    · obtain ⟨g, rfl, hg, a0, a1, a2, a3⟩ := own_at (own_kept H1.out HB.out) HN.out hlt
      obtain ⟨g', off, rfl, hg', b0, b1, b2, b3⟩ := doc_at (H2.out.next HB.out) HN.out hlt
      generalize nth l j = x at *
      have F : Hid (TwoAt w g (j * 4) g' (off + j * 4) x w1.drew) := Lib.hid (TwoAt.next ⟨⟨a0, a1, a2, a3, b0, b1, b2, b3⟩, ⟨hg, hg'⟩, HB.out⟩ (Below.refl _ _).drew)
      have OX := of_any x
      unfold entV at OX
      have c01 : (0 : Int) ≤ (j : Int) := by omega
      have c02 : (j : Int) < (n : Int) := by omega
      clear HB
      go_wp2
      go_region_held3 (fun w' => w'.cell? ⟨g, j * 4, none⟩ = some (.int .i64 x.b) ∧ w'.cell? ⟨g, j * 4 + 1, none⟩ = some (.int .i64 x.d) ∧ w'.cell? ⟨g, j * 4 + 2, none⟩ = some (.int .i64 x.s) ∧ w'.cell? ⟨g, j * 4 + 3, none⟩ = some (.int .i64 x.i) ∧ w'.cell? ⟨g', off + j * 4, none⟩ = some (.int .i64 x.b) ∧ w'.cell? ⟨g', off + j * 4 + 1, none⟩ = some (.int .i64 x.d) ∧ w'.cell? ⟨g', off + j * 4 + 2, none⟩ = some (.int .i64 x.s) ∧ w'.cell? ⟨g', off + j * 4 + 3, none⟩ = some (.int .i64 x.i)) (exact F.out.cs)
        (first
          | (go_at_call 7; (with_reducible refine (OX _).mono ?_); rintro e wn ⟨rfl, mo⟩; have F := Lib.hid (F.out.next mo.below); clear mo))
      have HB2 := Lib.hid F.out.B
      clear F
      go_wp2
      go_roundw
      case rel => exact ⟨j + 1, by omega, by go_num, HB2.out⟩
      case measure => simp [intOf]; omega
    · obtain rfl : j = n := by omega
      have nl : ¬ ((j : Int) < (j : Int)) := by omega
      go_wp2
      go_ret
      exact ⟨rfl, HB.out⟩
end Go.Proofs.Ytiighhcilgjebaa
