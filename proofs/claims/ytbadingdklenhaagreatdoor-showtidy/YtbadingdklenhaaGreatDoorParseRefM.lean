/-
  What the document's reader of tokens does: is, fail, word, number.
-/
import Derived.Test.YtbadingdklenhaaGreatDoorParseOther
import Derived.Deep.Draws
import Derived.BigQuiet
import Derived.Test.YtbadingdklenhaaGreatDoorParseSquare
import Derived.Test.YtbadingdklenhaaGreatDoorParseCoverKit
import Derived.Test.YtbadingdklenhaaGreatDoorParseCover
namespace Go.Proofs.YtbadingdklenhaaGreatDoor
set_option maxRecDepth 100000
open Go.RowKit

/-- The document's reader: at the token q.1, with the error q.2. -/
structure St (sb g C : Nat) (L : List Tk) (q : Nat × Nat) (w : World) : Prop where
  mk ::
  blk : w.heap[sb]? = some (.cells #[.slice (some ⟨g, 0, none⟩) L.length C, .int .i64 (q.1 : Nat), .int .i64 (q.2 : Nat)] 89 (0, 0))
  toks : ToksAt w g L
  ne : g ≠ sb
  le : L.length ≤ C
  mx : C ≤ maxLen
  lt : q.1 < L.length
namespace St
variable {sb g C : Nat} {L : List Tk} {q : Nat × Nat} {w w' : World}
theorem size (h : St sb g C L q w) : sb < w.heap.size := lt_of_block h.blk
theorem next (h : St sb g C L q w) (hb : Below w.heap.size w w') : St sb g C L q w' := ⟨(hb.block _ h.size).trans h.blk, h.toks.next hb, h.ne, h.le, h.mx, h.lt⟩
theorem drew (h : St sb g C L q w) : St sb g C L q w.drew := h.next (Below.refl _ _).drew
theorem cells (h : St sb g C L q w) : w.cell? ⟨sb, 0, none⟩ = some (.slice (some ⟨g, 0, none⟩) L.length C) ∧ w.cell? ⟨sb, 1, none⟩ = some (.int .i64 (q.1 : Nat)) ∧ w.cell? ⟨sb, 2, none⟩ = some (.int .i64 (q.2 : Nat)) ∧ w.frozen? ⟨sb, 1, none⟩ = false ∧ w.frozen? ⟨sb, 2, none⟩ = false := by
  have h1 := h.blk
  refine ⟨?_, ?_, ?_, frozen_of_row _ _ _ _ _ h1, frozen_of_row _ _ _ _ _ h1⟩ <;> (unfold World.cell?; simp only [h1]; rfl)
theorem kept (h : St sb g C L q w) (h1 : w'.heap[sb]? = w.heap[sb]?) (h2 : w'.heap[g]? = w.heap[g]?) (hs : w.heap.size ≤ w'.heap.size) : St sb g C L q w' :=
  ⟨h1.trans h.blk, ⟨Nat.lt_of_lt_of_le h.toks.1 hs, fun j v hj => (World.cell?_of_block (w := w) (a := ⟨g, j, none⟩) h2).trans (h.toks.2 j v hj)⟩, h.ne, h.le, h.mx, h.lt⟩
theorem grown (h : St sb g C L q w) {row : Option Nat} (hg : w.grownBy w' row) {B : Nat} (hB : sb < B ∧ g < B) (hr : ∀ k, row = some k → B ≤ k) : St sb g C L q w' :=
  h.kept (hg.block sb h.size (fun e => by have := hr sb e.symm; omega)) (hg.block g h.toks.1 (fun e => by have := hr g e.symm; omega)) hg.size
theorem other (h : St sb g C L q w) {a : Addr} (h1 : a.block ≠ sb) (h2 : a.block ≠ g) (v : Value) : St sb g C L q (w.setCell a v) :=
  h.kept (Below.heap_setCell _ _ _ _ (Ne.symm h1)) (Below.heap_setCell _ _ _ _ (Ne.symm h2)) (by simp [World.setCell])
/-- It goes on. -/
theorem goes (h : St sb g C L q w) {k : Nat} (hk : k < L.length) : St sb g C L (k, q.2) (w.setCell ⟨sb, 1, none⟩ (.int .i64 (k : Nat))) :=
  ⟨heap_setCell_same w sb 1 _ _ _ h.blk, ⟨by simp [World.setCell]; exact h.toks.1, fun j v hj => (World.cell?_of_block (w := w) (a := ⟨g, j, none⟩) (Below.heap_setCell _ _ _ _ h.ne)).trans (h.toks.2 j v hj)⟩, h.ne, h.le, h.mx, hk⟩
/-- It fails. -/
theorem fails (h : St sb g C L q w) (e : Nat) : St sb g C L (q.1, e) (w.setCell ⟨sb, 2, none⟩ (.int .i64 (e : Nat))) :=
  ⟨heap_setCell_same w sb 2 _ _ _ h.blk, ⟨by simp [World.setCell]; exact h.toks.1, fun j v hj => (World.cell?_of_block (w := w) (a := ⟨g, j, none⟩) (Below.heap_setCell _ _ _ _ h.ne)).trans (h.toks.2 j v hj)⟩, h.ne, h.le, h.mx, h.lt⟩
end St

def nF (e : Nat) (q : Nat × Nat) : Nat × Nat := if q.2 = 0 then (q.1, e) else q
def nW (L : List Tk) (t : List UInt8) (q : Nat × Nat) : Nat × Nat := if q.2 = 0 then (if isW L t q.1 = true then (q.1 + 1, 0) else (q.1, 4)) else q
def nN (L : List Tk) (lo hi : Int) (q : Nat × Nat) : Nat × Nat := if q.2 = 0 then (match numR L lo hi 22 q.1 with
  | .ok _ k => (k, 0)
  | .no j er => (j, er)) else q

set_option maxHeartbeats 1000000 in
theorem rfail_any (sb g C : Nat) (L : List Tk) (q : Nat × Nat) (e : Nat) (ei : Int) (hei : ei = (e : Nat)) (w : World) (h : St sb g C L q w) :
    Calls Tryz.prog 29 #[.pointer (some ⟨sb, 0, none⟩), .int .i64 ei] w fun r w' => r = .returned (.tuple #[]) ∧ St sb g C L (nF e q) w' ∧ Kb sb w w' := by
  subst hei
  obtain ⟨c0, c1, c2, f1, f2⟩ := h.cells
  have hs := h.size
  by_cases h0 : q.2 = 0
  · have e0 : nF e q = (q.1, e) := if_pos h0
    have HF := Lib.hid (h.fails e)
    have HK := Lib.hid ((Kb.refl sb w).store (a := ⟨sb, 2, none⟩) rfl (.int .i64 (e : Nat)))
    rw [e0]
    rw [h0] at c2
    clear h h0 e0
    go_enter Tryz.func29, Tryz.ntmps29
    go_wp2
    go_end0
    exact ⟨rfl, HF.out, HK.out⟩
  · have e0 : nF e q = q := if_neg h0
    have h1 : ¬ (q.2 : Int) = 0 := by omega
    rw [e0]
    clear e0 h0
    go_enter Tryz.func29, Tryz.ntmps29
    go_wp2
    go_end0
    exact ⟨rfl, h, Kb.refl _ _⟩
set_option maxHeartbeats 1000000 in
theorem ris_any (sb g C : Nat) (L : List Tk) (q : Nat × Nat) (t : ByteArray) (u : List UInt8) (hu : t.data.toList = u) (w : World) (h : St sb g C L q w) :
    Calls Tryz.prog 28 #[.pointer (some ⟨sb, 0, none⟩), .string t] w fun r w' => r = .returned (.bool (isW L u q.1)) ∧ Below w.heap.size w w' := by
  obtain ⟨c0, c1, c2, f1, f2⟩ := h.cells
  have hs := h.size
  have hx : ∃ x, L[q.1]? = some x := ⟨_, List.getElem?_eq_getElem h.lt⟩
  obtain ⟨x, hx⟩ := hx
  obtain ⟨t0, t1, t2, t3, t4⟩ := h.toks.get hx
  have hlt : (q.1 : Int) < (L.length : Int) := by have := h.lt; omega
  have hl0 : (0 : Int) ≤ (q.1 : Int) := by omega
  have hmx := h.mx
  have hle := h.le
  unfold maxLen at hmx
  generalize hk : q.1 = k at *
  by_cases hc : x.kind = 0
  · rw [hc] at t0
    by_cases ht : x.text = u
    · have e0 : isW L u k = true := by unfold isW; rw [hx]; simp [hc, ht]
      have hS : (⟨x.text.toArray⟩ : ByteArray) = t := ba_eq.2 (ht.trans hu.symm)
      rw [hS] at t1
      rw [e0]
      clear e0 hS ht hu hc hx h hk
      go_enter Tryz.func28, Tryz.ntmps28
      go_wp2
      go_quiet (fail)
      go_wp2
      go_ret
      exact ⟨rfl, below_drewN (Below.refl _ _) _⟩
    · have e0 : isW L u k = false := by unfold isW; rw [hx]; simp [ht]
      have hS : ¬ (⟨x.text.toArray⟩ : ByteArray) = t := fun e => ht ((ba_eq.1 e).trans hu)
      generalize (⟨x.text.toArray⟩ : ByteArray) = T at t1 hS
      have hQ := ba_ne hS
      rw [e0]
      clear e0 hS ht hu hc hx h hk
      go_enter Tryz.func28, Tryz.ntmps28
      go_wp2
      go_quiet (fail)
      go_wp2
      go_ret
      exact ⟨rfl, below_drewN (Below.refl _ _) _⟩
  · have e0 : isW L u k = false := by unfold isW; rw [hx]; simp [hc]
    have hc2 : ((x.kind : Int) == 0) = false := by simp; omega
    rw [e0]
    clear e0 hu hc hx h hk
    go_enter Tryz.func28, Tryz.ntmps28
    go_wp2
    go_quiet (fail)
    go_wp2
    go_ret
    exact ⟨rfl, below_drewN (Below.refl _ _) _⟩

set_option maxHeartbeats 1000000 in
theorem rword_any (sb g C : Nat) (L : List Tk) (hE : EndL L) (q : Nat × Nat) (t : ByteArray) (u : List UInt8) (hu : t.data.toList = u) (w : World) (h : St sb g C L q w) :
    Calls Tryz.prog 58 #[.pointer (some ⟨sb, 0, none⟩), .string t] w fun r w' => r = .returned (.tuple #[]) ∧ St sb g C L (nW L u q) w' ∧ Kb sb w w' := by
  have IS := ris_any sb g C L q t u hu w h
  have FL := fun q W hW => rfail_any sb g C L q 4 4 rfl W hW
  obtain ⟨k, e⟩ := q
  simp only at *
  by_cases hw : isW L u k = true
  · have hg := isW_goes hE hw
    rw [hw] at IS
    by_cases h0 : e = 0
    · subst h0
      have e0 : nW L u (k, 0) = (k + 1, 0) := by unfold nW; rw [if_pos rfl]; exact if_pos hw
      rw [e0]
      clear FL hw e0
      go_enter Tryz.func58, Tryz.ntmps58
      go_wp2_with fail
      with_reducible refine IS.mono ?_
      rintro r w1 ⟨rfl, b1⟩
      have h1 := h.next b1
      obtain ⟨c0, c1, c2, f1, f2⟩ := h1.cells
      have hs := h1.size
      have hlt := h.lt
      have hle := h.le
      have hmx := h.mx
      unfold maxLen at hmx
      simp only at c1 c2 hlt
      have HG := Lib.hid (h1.goes (k := k + 1) hg)
      have HK := Lib.hid (((Kb.of (r := sb) b1)).store (a := ⟨sb, 1, none⟩) rfl (.int .i64 ((k + 1 : Nat) : Int)))
      have hki : (k : Int) + 1 ≤ 9223372036854775807 := by omega
      have hki0 : (0 : Int) ≤ (k : Int) := by omega
      clear h h1 b1 IS
      go_wp2
      go_end0
      exact ⟨rfl, HG.out, HK.out⟩
    · have e0 : nW L u (k, e) = (k, e) := if_neg h0
      have he : ¬ (e : Int) = 0 := by omega
      rw [e0]
      clear FL hw e0 h0
      go_enter Tryz.func58, Tryz.ntmps58
      go_wp2_with fail
      with_reducible refine IS.mono ?_
      rintro r w1 ⟨rfl, b1⟩
      have h1 := h.next b1
      obtain ⟨c0, c1, c2, f1, f2⟩ := h1.cells
      have hs := h1.size
      simp only at c1 c2
      have HG := Lib.hid h1
      have HK := Lib.hid (Kb.of (r := sb) b1)
      clear h h1 b1 IS
      go_wp2
      go_end0
      exact ⟨rfl, HG.out, HK.out⟩
  · have hwf : isW L u k = false := by simpa using hw
    rw [hwf] at IS
    by_cases h0 : e = 0
    · subst h0
      have e0 : nW L u (k, 0) = (k, 4) := by unfold nW; rw [if_pos rfl]; exact if_neg hw
      rw [e0]
      clear hw e0 hwf
      go_enter Tryz.func58, Tryz.ntmps58
      go_wp2_with fail
      with_reducible refine IS.mono ?_
      rintro r w1 ⟨rfl, b1⟩
      go_wp2_with fail
      with_reducible refine (FL _ _ (h.next b1)).mono ?_
      rintro r w2 ⟨rfl, h2, kb⟩
      have h2' : St sb g C L (k, 4) w2 := h2
      obtain ⟨c0, c1, c2, f1, f2⟩ := h2'.cells
      have hs := h2'.size
      simp only at c1 c2
      have HG := Lib.hid h2'
      have HK := Lib.hid ((Kb.of (r := sb) b1).trans kb)
      clear h h2 h2' b1 IS kb FL
      go_wp2
      go_end0
      exact ⟨rfl, HG.out, HK.out⟩
    · have e0 : nW L u (k, e) = (k, e) := if_neg h0
      have he : ¬ (e : Int) = 0 := by omega
      have e1 : nF 4 (k, e) = (k, e) := if_neg h0
      rw [e0]
      have FL1 := fun W hW => FL (k, e) W hW
      rw [e1] at FL1
      clear hw e0 hwf h0 FL e1
      go_enter Tryz.func58, Tryz.ntmps58
      go_wp2_with fail
      with_reducible refine IS.mono ?_
      rintro r w1 ⟨rfl, b1⟩
      go_wp2_with fail
      with_reducible refine (FL1 _ (h.next b1)).mono ?_
      rintro r w2 ⟨rfl, h2, kb⟩
      obtain ⟨c0, c1, c2, f1, f2⟩ := h2.cells
      have hs := h2.size
      simp only at c1 c2
      have HG := Lib.hid h2
      have HK := Lib.hid ((Kb.of (r := sb) b1).trans kb)
      clear h h2 b1 IS kb FL1
      go_wp2
      go_end0
      exact ⟨rfl, HG.out, HK.out⟩

set_option maxHeartbeats 2000000 in
theorem rnumber_any (sb g C : Nat) (L : List Tk) (hE : EndL L) (q : Nat × Nat) (lo hi : Int) (w : World) (h : St sb g C L q w) :
    Calls Tryz.prog 59 #[.pointer (some ⟨sb, 0, none⟩), .int .i64 lo, .int .i64 hi] w fun r w' => ∃ n, r = .returned (.int .i64 n) ∧ (∀ m k', q.2 = 0 → numR L lo hi 22 q.1 = .ok m k' → n = m) ∧ St sb g C L (nN L lo hi q) w' ∧ Kb sb w w' := by
  obtain ⟨x, hx⟩ : ∃ x, L[q.1]? = some x := ⟨_, List.getElem?_eq_getElem h.lt⟩
  have FL4 := fun q W hW => rfail_any sb g C L q 4 4 rfl W hW
  have FL22 := fun q W hW => rfail_any sb g C L q 22 22 rfl W hW
  obtain ⟨c0, c1, c2, f1, f2⟩ := h.cells
  have hs := h.size
  have hgs := h.toks.1
  obtain ⟨t0, t1, t2, t3, t4⟩ := h.toks.get hx
  have hlt := h.lt
  have hle := h.le
  have hmx := h.mx
  unfold maxLen at hmx
  have d1 : (0 : Int) ≤ (q.1 : Int) := by omega
  have d2 : (q.1 : Int) < (L.length : Int) := by omega
  obtain ⟨k, e⟩ := q
  simp only at *
  have HN0 := Lib.hid (show ∀ m k', e = 0 → numR L lo hi 22 k = .ok m k' → x.n = m from fun m k' _ hm => by
    obtain ⟨t, ht, _, h3, _⟩ := numR_ok hm
    rw [hx] at ht
    obtain rfl := Option.some.inj ht
    exact h3)
  obtain ⟨kd, hkd⟩ : ∃ kd : Int, ((x.kind : Nat) : Int) = kd := ⟨_, rfl⟩
  rw [hkd] at t0
  have nb := new_below w (.cells #[.int .i64 kd, .string ⟨x.text.toArray⟩, .int .i64 x.n, .int .i64 (x.line : Nat), .int .i64 (x.col : Nat)] 95)
  have H1 := Lib.hid (h.next nb)
  have HT := Lib.hid (tbox_new w (.int .i64 kd) (.string ⟨x.text.toArray⟩) (.int .i64 x.n) (.int .i64 (x.line : Nat)) (.int .i64 (x.col : Nat)) 95)
  clear nb
  have H1d := Lib.hid (H1.out.drew)
  have HTd := Lib.hid (HT.out.next (Below.refl _ _).drew)
  clear H1 HT
  obtain ⟨W1, hW1⟩ : ∃ W1, W1 = (w.alloc (.cells #[.int .i64 kd, .string ⟨x.text.toArray⟩, .int .i64 x.n, .int .i64 (x.line : Nat), .int .i64 (x.col : Nat)] 95)).drew := ⟨_, rfl⟩
  have HB := Lib.hid (show Below w.heap.size w W1 by rw [hW1]; exact (new_below _ _).drew)
  rw [← hW1] at H1d HTd
  have HW1 := Lib.hid hW1
  clear hW1
  have fin : ∀ W q', Kb sb W1 W → St sb g C L q' W → TBox w.heap.size (.int .i64 kd) (.string ⟨x.text.toArray⟩) (.int .i64 x.n) (.int .i64 (x.line : Nat)) (.int .i64 (x.col : Nat)) W := fun W q' kb _ => HTd.out.kb kb (by omega)
  have HF := Lib.hid fin
  clear fin
  -- what stands behind the first test
  by_cases hc : x.kind = 1
  · have hkd1 : kd = 1 := by omega
    by_cases h0 : e = 0
    · subst h0
      by_cases hr : lo ≤ x.n ∧ x.n ≤ hi
      · have hg := hE.goes hx (by omega)
        have e0 : nN L lo hi (k, 0) = (k + 1, 0) := by
          have e1 : numR L lo hi 22 k = .ok x.n (k + 1) := by unfold numR; rw [hx]; simp only; rw [if_pos hc, if_pos hr]
          unfold nN
          simp only [if_true]
          rw [e1]
        obtain ⟨r1, r2⟩ := hr
        have r3 : ¬ x.n < lo := by omega
        have r4 : ¬ hi < x.n := by omega
        rw [e0]
        clear e0 hc hx FL4 FL22 r1 r2 hkd
        subst hkd1
        go_enter Tryz.func59, Tryz.ntmps59
        go_wp2
        go_region
        rw [← HW1.out]
        obtain ⟨b0, b1, b2, b3, b4, _, _, _, _, _, hz⟩ := HTd.out
        obtain ⟨y0, y1, y2, g1, g2⟩ := H1d.out.cells
        have hs1 := H1d.out.size
        simp only at y1 y2
        have HG := Lib.hid (H1d.out.goes (k := k + 1) hg)
        have HK := Lib.hid (((Kb.of (r := sb) HB.out)).store (a := ⟨sb, 1, none⟩) rfl (.int .i64 ((k + 1 : Nat) : Int)))
        have hns : ¬ sb = w.heap.size := by omega
        clear h t0 t1 t2 t3 t4 c0 c1 c2 f1 f2 H1d HTd HB
        go_wp2
        go_ret
        exact ⟨_, rfl, fun m k' hm => (by first | exact HN0.out m k' hm | exact HN0.out m k' rfl hm | exact HN0.out m k' trivial hm), HG.out, HK.out⟩
      · have e0 : nN L lo hi (k, 0) = (k, 22) := by
          have e1 : numR L lo hi 22 k = .no k 22 := by unfold numR; rw [hx]; simp only; rw [if_pos hc, if_neg hr]
          unfold nN
          simp only [if_true]
          rw [e1]
        rw [e0]
        have F22 := FL22 (k, 0)
        rw [show nF 22 (k, 0) = (k, 22) from rfl] at F22
        have hk1 : x.n < lo ∨ (¬ x.n < lo ∧ hi < x.n) := by omega
        clear e0 hc hx FL4 FL22 hkd hr
        subst hkd1
        rcases hk1 with q1 | ⟨q1, q2⟩
        all_goals
          go_enter Tryz.func59, Tryz.ntmps59
          go_wp2
          go_region
          rw [← HW1.out]
          obtain ⟨b0, b1, b2, b3, b4, _, _, _, _, _, hz⟩ := HTd.out
          obtain ⟨y0, y1, y2, g1, g2⟩ := H1d.out.cells
          have hs1 := H1d.out.size
          clear t0 t1 t2 t3 t4 c0 c1 c2 f1 f2
          go_wp2_with fail
          with_reducible refine (F22 _ H1d.out).mono ?_
          rintro r w2 ⟨rfl, h2, kb2⟩
          obtain ⟨a0, a1, a2, a3, a4, _, _, _, _, _, hz2⟩ := HF.out _ _ kb2 h2
          obtain ⟨z0, z1, z2, g3, g4⟩ := h2.cells
          have hs2 := h2.size
          simp only at z1 z2
          have HG := Lib.hid h2
          have HK := Lib.hid ((Kb.of (r := sb) HB.out).trans kb2)
          clear h h2 kb2 H1d HTd HB HF y0 y1 y2 g1 g2 b0 b1 b2 b3 b4 F22
          go_wp2
          go_ret
          exact ⟨_, rfl, fun m k' hm => (by first | exact HN0.out m k' hm | exact HN0.out m k' rfl hm | exact HN0.out m k' trivial hm), HG.out, HK.out⟩
    · have e0 : nN L lo hi (k, e) = (k, e) := if_neg h0
      have he : ¬ (e : Int) = 0 := by omega
      rw [e0]
      have F22 := FL22 (k, e)
      rw [show nF 22 (k, e) = (k, e) from if_neg h0] at F22
      have hk1 : (¬ x.n < lo ∧ ¬ hi < x.n) ∨ x.n < lo ∨ (¬ x.n < lo ∧ hi < x.n) := by omega
      clear e0 hc hx FL4 FL22 hkd
      subst hkd1
      rcases hk1 with ⟨q1, q2⟩ | q1 | ⟨q1, q2⟩
      · go_enter Tryz.func59, Tryz.ntmps59
        go_wp2
        go_region
        rw [← HW1.out]
        obtain ⟨b0, b1, b2, b3, b4, _, _, _, _, _, hz⟩ := HTd.out
        obtain ⟨y0, y1, y2, g1, g2⟩ := H1d.out.cells
        have hs1 := H1d.out.size
        simp only at y1 y2
        have HK := Lib.hid (Kb.of (r := sb) HB.out)
        clear h t0 t1 t2 t3 t4 c0 c1 c2 f1 f2 HTd HB HF F22
        go_wp2
        go_ret
        exact ⟨_, rfl, fun m k' hm0 => absurd hm0 h0, H1d.out, HK.out⟩
      all_goals
        go_enter Tryz.func59, Tryz.ntmps59
        go_wp2
        go_region
        rw [← HW1.out]
        obtain ⟨b0, b1, b2, b3, b4, _, _, _, _, _, hz⟩ := HTd.out
        obtain ⟨y0, y1, y2, g1, g2⟩ := H1d.out.cells
        have hs1 := H1d.out.size
        clear t0 t1 t2 t3 t4 c0 c1 c2 f1 f2
        go_wp2_with fail
        with_reducible refine (F22 _ H1d.out).mono ?_
        rintro r w2 ⟨rfl, h2, kb2⟩
        obtain ⟨a0, a1, a2, a3, a4, _, _, _, _, _, hz2⟩ := HF.out _ _ kb2 h2
        obtain ⟨z0, z1, z2, g3, g4⟩ := h2.cells
        have hs2 := h2.size
        simp only at z1 z2
        have HG := Lib.hid h2
        have HK := Lib.hid ((Kb.of (r := sb) HB.out).trans kb2)
        clear h h2 kb2 H1d HTd HB HF y0 y1 y2 g1 g2 b0 b1 b2 b3 b4 F22
        go_wp2
        go_ret
        exact ⟨_, rfl, fun m k' hm0 => absurd hm0 h0, HG.out, HK.out⟩
  · have hkn : ¬ kd = 1 := by omega
    obtain ⟨e', he1, he2, he3, he4⟩ : ∃ e', nN L lo hi (k, e) = (k, e') ∧ nF 4 (k, e) = (k, e') ∧ e' ≠ 0 ∧ (e = 0 → ∀ m k', numR L lo hi 22 k = .ok m k' → False) := by
      have hnn : numR L lo hi 22 k = .no k 4 := by unfold numR; rw [hx]; simp only; rw [if_neg hc]
      by_cases h0 : e = 0
      · subst h0
        refine ⟨4, ?_, rfl, by omega, fun _ m k' hm => by rw [hnn] at hm; cases hm⟩
        unfold nN
        simp only [if_true]
        rw [hnn]
      · exact ⟨e, if_neg h0, if_neg h0, h0, fun q => absurd q h0⟩
    have he : ¬ (e' : Int) = 0 := by omega
    rw [he1]
    have F4 := FL4 (k, e)
    rw [he2] at F4
    have F22 := FL22 (k, e')
    rw [show nF 22 (k, e') = (k, e') from if_neg he3] at F22
    have hk1 : (¬ x.n < lo ∧ ¬ hi < x.n) ∨ x.n < lo ∨ (¬ x.n < lo ∧ hi < x.n) := by omega
    have HE4 := Lib.hid he4
    clear hc hx FL4 FL22 hkd he1 he2 he3 he4
    rcases hk1 with ⟨q1, q2⟩ | q1 | ⟨q1, q2⟩
    · go_enter Tryz.func59, Tryz.ntmps59
      go_wp2
      go_region
      rw [← HW1.out]
      obtain ⟨b0, b1, b2, b3, b4, _, _, _, _, _, hz⟩ := HTd.out
      clear t0 t1 t2 t3 t4 c0 c1 c2 f1 f2
      go_wp2_with fail
      with_reducible refine (F4 _ H1d.out).mono ?_
      rintro r w2 ⟨rfl, h2, kb2⟩
      obtain ⟨a0, a1, a2, a3, a4, _, _, _, _, _, hz2⟩ := HF.out _ _ kb2 h2
      obtain ⟨z0, z1, z2, g3, g4⟩ := h2.cells
      have hs2 := h2.size
      simp only at z1 z2
      have HG := Lib.hid h2
      have HK := Lib.hid ((Kb.of (r := sb) HB.out).trans kb2)
      clear h h2 kb2 H1d HTd HB HF b0 b1 b2 b3 b4 F22 F4
      go_wp2
      go_ret
      exact ⟨_, rfl, fun m k' hm0 hm => (HE4.out hm0 m k' hm).elim, HG.out, HK.out⟩
    all_goals
      go_enter Tryz.func59, Tryz.ntmps59
      go_wp2
      go_region
      rw [← HW1.out]
      obtain ⟨b0, b1, b2, b3, b4, _, _, _, _, _, hz⟩ := HTd.out
      clear t0 t1 t2 t3 t4 c0 c1 c2 f1 f2
      go_wp2_with fail
      with_reducible refine (F4 _ H1d.out).mono ?_
      rintro r w2 ⟨rfl, h2, kb2⟩
      obtain ⟨a0, a1, a2, a3, a4, _, _, _, _, _, hz2⟩ := HF.out _ _ kb2 h2
      clear b0 b1 b2 b3 b4 F4
      go_wp2_with fail
      with_reducible refine (F22 _ h2).mono ?_
      rintro r w3 ⟨rfl, h3, kb3⟩
      obtain ⟨b0, b1, b2, b3, b4, _, _, _, _, _, hz3⟩ := HF.out _ _ (kb2.trans kb3) h3
      obtain ⟨z0, z1, z2, g3, g4⟩ := h3.cells
      have hs2 := h3.size
      simp only at z1 z2
      have HG := Lib.hid h3
      have HK := Lib.hid (((Kb.of (r := sb) HB.out).trans kb2).trans kb3)
      clear h h2 h3 kb2 kb3 H1d HTd HB HF a0 a1 a2 a3 a4 F22
      go_wp2
      go_ret
      exact ⟨_, rfl, fun m k' hm0 hm => (HE4.out hm0 m k' hm).elim, HG.out, HK.out⟩
end Go.Proofs.YtbadingdklenhaaGreatDoor

/-
  What the document's knapsack does with tokens.
-/
namespace Go.Proofs.YtbadingdklenhaaGreatDoor
set_option maxRecDepth 100000
open Go.RowKit

/-- How many tokens the document's reader may yet read. -/
def leftD (sb n : Nat) (w : World) : Nat := match w.cell? ⟨sb, 1, none⟩, w.cell? ⟨sb, 2, none⟩ with
  | some (.int _ k), some (.int _ e) => if e = 0 then n + 1 - k.toNat else 0
  | _, _ => 0
theorem St.left {sb g C : Nat} {L : List Tk} {q : Nat × Nat} {w : World} (h : St sb g C L q w) : leftD sb L.length w = if q.2 = 0 then L.length + 1 - q.1 else 0 := by
  obtain ⟨_, c1, c2, _, _⟩ := h.cells
  unfold leftD
  rw [c1, c2]
  simp
theorem St.set6 {sb g C : Nat} {L : List Tk} {q : Nat × Nat} {w : World} {b : Nat} {v0 v1 v2 v3 v4 v5 : Value} (h : St sb g C L q w) (h1 : b ≠ sb) (h2 : b ≠ g) : St sb g C L q (set6 b v0 v1 v2 v3 v4 v5 w) :=
  (((((h.other (a := ⟨b, 0, none⟩) h1 h2 v0).other (a := ⟨b, 1, none⟩) h1 h2 v1).other (a := ⟨b, 2, none⟩) h1 h2 v2).other (a := ⟨b, 3, none⟩) h1 h2 v3).other (a := ⟨b, 4, none⟩) h1 h2 v4).other (a := ⟨b, 5, none⟩) h1 h2 v5
/-- How a part of the document's reading stands: it goes on to R, or has failed. -/
def Alt {α : Type} (X : Nat → Rd α) (R : Rd α) (q : Nat × Nat) : Prop := (q.2 = 0 ∧ X q.1 = R) ∨ (q.2 ≠ 0 ∧ R = .no q.1 q.2)
theorem nN_ok {L : List Tk} {lo hi : Int} {q : Nat × Nat} : (q.2 = 0 ∧ ∃ m k, numR L lo hi 22 q.1 = .ok m k ∧ nN L lo hi q = (k, 0)) ∨ (q.2 = 0 ∧ ∃ j er, numR L lo hi 22 q.1 = .no j er ∧ nN L lo hi q = (j, er)) ∨ (q.2 ≠ 0 ∧ nN L lo hi q = q) := by
  unfold nN
  by_cases h : q.2 = 0
  · rw [if_pos h]
    cases hn : numR L lo hi 22 q.1 with
    | ok m k => exact .inl ⟨h, m, k, rfl, rfl⟩
    | no j er => exact .inr (.inl ⟨h, j, er, rfl, rfl⟩)
  · rw [if_neg h]; exact .inr (.inr ⟨h, rfl⟩)
theorem numR_err {L : List Tk} {lo hi : Int} {k j er : Nat} (h : numR L lo hi 22 k = .no j er) : er ≠ 0 := by
  unfold numR at h
  split at h
  · injection h with _ h; omega
  · split at h
    · split at h
      · cases h
      · injection h with _ h; omega
    · injection h with _ h; omega
/-- A number is read, or it fails. -/
theorem Alt.num {α : Type} {L : List Tk} {lo hi : Int} {q : Nat × Nat} {X : Int → Nat → Rd α} {R : Rd α} (h : Alt (fun k => (numR L lo hi 22 k).nx fun m k' => X m k') R q) {n : Int} (hn : ∀ m k', q.2 = 0 → numR L lo hi 22 q.1 = .ok m k' → n = m) : Alt (X n) R (nN L lo hi q) := by
  rcases nN_ok (L := L) (lo := lo) (hi := hi) (q := q) with ⟨h0, m, k, e1, e2⟩ | ⟨h0, j, er, e1, e2⟩ | ⟨h0, e2⟩
  · rw [e2]
    rcases h with ⟨_, h⟩ | ⟨h, _⟩
    · have h : (numR L lo hi 22 q.1).nx (fun m k' => X m k') = R := h
      rw [e1] at h
      rw [hn m k h0 e1]
      exact .inl ⟨rfl, h⟩
    · exact absurd h0 h
  · rw [e2]
    rcases h with ⟨_, h⟩ | ⟨h, _⟩
    · have h : (numR L lo hi 22 q.1).nx (fun m k' => X m k') = R := h
      rw [e1] at h
      exact .inr ⟨numR_err e1, h.symm⟩
    · exact absurd h0 h
  · rw [e2]
    rcases h with ⟨h, _⟩ | h
    · exact absurd h h0
    · exact .inr h
theorem Alt.word {α : Type} {L : List Tk} {t : List UInt8} {q : Nat × Nat} {X : Nat → Rd α} {R : Rd α} (h : Alt (fun k => (wordR L t k).nx fun _ k' => X k') R q) : Alt X R (nW L t q) := by
  unfold nW
  by_cases h0 : q.2 = 0
  · rw [if_pos h0]
    rcases h with ⟨_, h⟩ | ⟨h, _⟩
    · have h : (wordR L t q.1).nx (fun _ k' => X k') = R := h
      unfold wordR at h
      by_cases hw : isW L t q.1 = true
      · rw [if_pos hw] at h ⊢
        exact .inl ⟨rfl, h⟩
      · rw [if_neg hw] at h ⊢
        exact .inr ⟨by show (4 : Nat) ≠ 0; omega, h.symm⟩
    · exact absurd h0 h
  · rw [if_neg h0]
    rcases h with ⟨h, _⟩ | h
    · exact absurd h h0
    · exact .inr h
theorem nN_fst {L : List Tk} (hE : EndL L) {lo hi : Int} {q : Nat × Nat} (hq : q.1 < L.length) : q.1 ≤ (nN L lo hi q).1 := by
  rcases nN_ok (L := L) (lo := lo) (hi := hi) (q := q) with ⟨_, m, k, e1, e2⟩ | ⟨_, j, er, e1, e2⟩ | ⟨_, e2⟩
  · rw [e2]
    have := numR_fit hE (lo := lo) (hi := hi) (e := 22) (k := q.1) hq (.inr rfl)
    rw [e1] at this
    exact this.1
  · rw [e2]
    have := numR_fit hE (lo := lo) (hi := hi) (e := 22) (k := q.1) hq (.inr rfl)
    rw [e1] at this
    exact this.1
  · rw [e2]; exact Nat.le_refl _
theorem nN_fst2 {L : List Tk} (hE : EndL L) {lo hi : Int} {q : Nat × Nat} (hq : q.1 < L.length) : (nN L lo hi q).1 ≤ (nN L lo hi (nN L lo hi q)).1 := by
  refine nN_fst hE ?_
  rcases nN_ok (L := L) (lo := lo) (hi := hi) (q := q) with ⟨_, m, k, e1, e2⟩ | ⟨_, j, er, e1, e2⟩ | ⟨_, e2⟩
  · rw [e2]
    have := numR_fit hE (lo := lo) (hi := hi) (e := 22) (k := q.1) hq (.inr rfl)
    rw [e1] at this
    exact this.2
  · rw [e2]
    have := numR_fit hE (lo := lo) (hi := hi) (e := 22) (k := q.1) hq (.inr rfl)
    rw [e1] at this
    exact this.2.1
  · rw [e2]; exact hq
theorem nx_assoc {α β γ : Type} (r : Rd α) (f : α → Nat → Rd β) (g : β → Nat → Rd γ) : (r.nx f).nx g = r.nx fun a k => (f a k).nx g := by cases r <;> rfl
theorem nW_fst {L : List Tk} {t : List UInt8} {q : Nat × Nat} : q.1 ≤ (nW L t q).1 := by
  unfold nW
  split
  · split
    · exact Nat.le_succ _
    · exact Nat.le_refl _
  · exact Nat.le_refl _
theorem nN_snd {L : List Tk} {lo hi : Int} {q : Nat × Nat} (h : q.2 ≠ 0) : nN L lo hi q = q := if_neg h
theorem nW_snd {L : List Tk} {t : List UInt8} {q : Nat × Nat} (h : q.2 ≠ 0) : nW L t q = q := if_neg h

/-- What a part of the document's reading gives: an instance, or where it fails. -/
def RIs (sb g C : Nat) (L : List Tk) (R : Rd In) (w : World) (r : Ending) (w' : World) : Prop := ∃ v q a b A0 n0 C0 A1 n1 C1 z A2 n2 C2, r = .returned v ∧ v = .agg #[.int .i64 a, .int .i64 b, .slice A0 n0 C0, .slice A1 n1 C1, .int .i64 z, .slice A2 n2 C2] ∧ St sb g C L q w' ∧ Kb sb w w' ∧
  ((q.2 = 0 ∧ ∃ I, R = .ok I q.1 ∧ Ins (fun b => w.heap.size ≤ b) (fun b => w.heap.size ≤ b) w' v I) ∨ (q.2 ≠ 0 ∧ R = .no q.1 q.2))
theorem infoPr : (Tryz.prog.info? 64).map (fun i => (i.zero, i.size, i.bytes)) = some (some (.agg #[.int .i64 0, .int .i64 0]), 2, 16) := by kernel_rfl
/-- What stands while the document's knapsack reads items. -/
structure RKn (sb g C : Nat) (L : List Tk) (R : Rd In) (w : World) (cap : Int) (va : Value) (its : List (Int × Int)) (q : Nat × Nat) (wr : World) : Prop where
  mk ::
  res : IBlk w.heap.size 36 (.int .i64 0) (.int .i64 0) (.slice none 0 0) (.slice none 0 0) (.int .i64 0) (.slice none 0 0) wr
  box : IBlk (w.heap.size + 1) 36 (.int .i64 0) (.int .i64 cap) va (.slice none 0 0) (.int .i64 0) (.slice none 0 0) wr
  own : wr.ownsRow (w.heap.size + 2) 64 2 va its.length (fl2 its)
  st : St sb g C L q wr
  kb : Kb sb w wr
  alt : Alt (fun k => (itemsG L its k).nx fun l k3 => .ok (⟨0, cap, l, [], 0, []⟩ : In) k3) R q
  len : its.length ≤ 4096 ∨ (its.length ≤ 4097 ∧ q.2 ≠ 0)
section
variable {sb g C : Nat} {L : List Tk} {R : Rd In} {w : World} {cap : Int} {va : Value} {its : List (Int × Int)} {q q' : Nat × Nat} {wr w' : World}
theorem RKn.kb' (h : RKn sb g C L R w cap va its q wr) (hs : sb < w.heap.size) (kb : Kb sb wr w') : IBlk w.heap.size 36 (.int .i64 0) (.int .i64 0) (.slice none 0 0) (.slice none 0 0) (.int .i64 0) (.slice none 0 0) w' ∧ IBlk (w.heap.size + 1) 36 (.int .i64 0) (.int .i64 cap) va (.slice none 0 0) (.int .i64 0) (.slice none 0 0) w' ∧ w'.ownsRow (w.heap.size + 2) 64 2 va its.length (fl2 its) ∧ Kb sb w w' :=
  ⟨h.res.kb kb (by omega), h.box.kb kb (by omega), kb.own (by omega) h.own, h.kb.trans kb⟩
end

theorem rkn_step {sb g C : Nat} {L : List Tk} {R : Rd In} {w : World} {c : Int} {va : Value} {its : List (Int × Int)} {v u : Int} {q : Nat × Nat} {w7 w8 : World} {g' cap' : Nat} (hs0 : sb < w.heap.size) (hg0 : g < w.heap.size)
    (hrs : IBlk w.heap.size 36 (.int .i64 0) (.int .i64 0) (.slice none 0 0) (.slice none 0 0) (.int .i64 0) (.slice none 0 0) w7) (hbx : IBlk (w.heap.size + 1) 36 (.int .i64 0) (.int .i64 c) va (.slice none 0 0) (.int .i64 0) (.slice none 0 0) w7) (hown : w7.ownsRow (w.heap.size + 2) 64 2 va its.length (fl2 its)) (hkb : Kb sb w w7)
    (hS : St sb g C L q w7) (ha : Alt (fun k => (itemsG L (its ++ [(v, u)]) k).nx fun l k3 => .ok (⟨0, c, l, [], 0, []⟩ : In) k3) R q) (hl : (its ++ [(v, u)]).length ≤ 4096 ∨ ((its ++ [(v, u)]).length ≤ 4097 ∧ q.2 ≠ 0))
    (ho : w8.ownsRow (w.heap.size + 2) 64 2 (.slice (some ⟨g', 0, none⟩) (its.length + 1) cap') (its.length + 1) (fl2 its ++ [.int .i64 v, .int .i64 u])) (hgr : (w7.alloc (.cells #[.int .i64 v, .int .i64 u] 64)).grownBy w8 va.ownBlock) :
    RKn sb g C L R w c (.slice (some ⟨g', 0, none⟩) (its.length + 1) cap') (its ++ [(v, u)]) q (w8.setCell ⟨w.heap.size + 1, 2, none⟩ (.slice (some ⟨g', 0, none⟩) (its.length + 1) cap')) := by
  have hrow : ∀ k, va.ownBlock = some k → w.heap.size + 2 ≤ k := fun k hk => (hown.lt k hk).1
  have nb := new_below w7 (.cells #[.int .i64 v, .int .i64 u] 64)
  have r1 := hrs.next nb
  have b1 := hbx.next nb
  refine ⟨(r1.keep (hgr.block _ r1.lt (fun e => by have := hrow _ e.symm; omega))).other (a := ⟨w.heap.size + 1, 2, none⟩) (show w.heap.size ≠ w.heap.size + 1 by omega) _, (b1.keep (hgr.block _ b1.lt (fun e => by have := hrow _ e.symm; omega))).set2 _, ?_, ((hS.next nb).grown hgr (B := w.heap.size + 2) ⟨by omega, by omega⟩ hrow).other (a := ⟨w.heap.size + 1, 2, none⟩) (show w.heap.size + 1 ≠ sb by omega) (show w.heap.size + 1 ≠ g by omega) _, ((hkb.next nb).grown hgr (fun k hk => by have := hrow k hk; omega)).new (a := ⟨w.heap.size + 1, 2, none⟩) (show w.heap.size ≤ w.heap.size + 1 by omega) _, ha, hl⟩
  rw [List.length_append, List.length_singleton, fl2_append]
  exact ownsRow_setCell_below (a := ⟨w.heap.size + 1, 2, none⟩) ho (show w.heap.size + 1 < w.heap.size + 2 by omega) _
set_option maxHeartbeats 4000000 in
theorem rknap_any (sb g C : Nat) (L : List Tk) (hE : EndL L) (k0 : Nat) (w : World) (h : St sb g C L (k0, 0) w) :
    Calls Tryz.prog 30 #[.pointer (some ⟨sb, 0, none⟩)] w (RIs sb g C L (knapR L k0) w) := by
  have WD := fun q W hW => rword_any sb g C L hE q ⟨#[99, 97, 112, 97, 99, 105, 116, 121]⟩ capW rfl W hW
  have WI := fun q W hW => rword_any sb g C L hE q ⟨#[105, 116, 101, 109]⟩ itemW rfl W hW
  have IS := fun q W hW => ris_any sb g C L q ⟨#[105, 116, 101, 109]⟩ itemW rfl W hW
  have NB := fun q W hW => rnumber_any sb g C L hE q 0 2147483648 W hW
  have FL := fun q W hW => rfail_any sb g C L q 22 22 rfl W hW
  obtain ⟨i0, hi0, hz01, hz02, hz03⟩ := info_parts infoPr
  have hs0 := h.size
  have hg0 := h.toks.1
  have ha0 : Alt (fun k => (wordR L capW k).nx fun _ k1 => (numR L 0 2147483648 22 k1).nx fun c k2 => (itemsG L [] k2).nx fun l k3 => .ok (⟨0, c, l, [], 0, []⟩ : In) k3) (knapR L k0) (k0, 0) := .inl ⟨rfl, rfl⟩
  obtain ⟨R, hR⟩ : ∃ R, knapR L k0 = R := ⟨_, rfl⟩
  rw [hR] at ha0 ⊢
  have HA0 := Lib.hid ha0
  clear hR ha0
  have HI0 := Lib.hid (And.intro ((iblk_new w (.int .i64 0) (.int .i64 0) (.slice none 0 0) (.slice none 0 0) (.int .i64 0) (.slice none 0 0) 36).next (new_below _ (.cells #[.int .i64 0, .int .i64 0, .slice none 0 0, .slice none 0 0, .int .i64 0, .slice none 0 0] 36)))
    (by have := iblk_new (w.alloc (.cells #[.int .i64 0, .int .i64 0, .slice none 0 0, .slice none 0 0, .int .i64 0, .slice none 0 0] 36)) (.int .i64 0) (.int .i64 0) (.slice none 0 0) (.slice none 0 0) (.int .i64 0) (.slice none 0 0) 36; rw [World.size_alloc] at this; exact this))
  have HS0 := Lib.hid ((h.next (new_below _ (.cells #[.int .i64 0, .int .i64 0, .slice none 0 0, .slice none 0 0, .int .i64 0, .slice none 0 0] 36))).next (new_below _ (.cells #[.int .i64 0, .int .i64 0, .slice none 0 0, .slice none 0 0, .int .i64 0, .slice none 0 0] 36)))
  have HK0 := Lib.hid (((Kb.refl sb w).alloc (.cells #[.int .i64 0, .int .i64 0, .slice none 0 0, .slice none 0 0, .int .i64 0, .slice none 0 0] 36)).alloc (.cells #[.int .i64 0, .int .i64 0, .slice none 0 0, .slice none 0 0, .int .i64 0, .slice none 0 0] 36))
  clear h
  go_enter Tryz.func30, Tryz.ntmps30
  go_wp2_with fail
  with_reducible refine (WD _ _ HS0.out).mono ?_
  rintro r w1 ⟨rfl, h1, kb1⟩
  go_wp2_with fail
  with_reducible refine (NB _ _ h1).mono ?_
  rintro r w2 ⟨c, rfl, hc, h2, kb2⟩
  have kb3 := kb1.trans kb2
  have hb2 := HI0.out.2.kb kb3 (by omega)
  have hres := HI0.out.1.kb kb3 (by omega)
  obtain ⟨b0, b1, b2, b3, b4, b5⟩ := hb2.box
  have f1 := hb2.free 1
  have hRK : RKn sb g C L R w c (.slice none 0 0) [] (nN L 0 2147483648 (nW L capW (k0, 0))) (w2.setCell ⟨w.heap.size + 1, 1, none⟩ (.int .i64 c)) :=
    ⟨hres.other (a := ⟨w.heap.size + 1, 1, none⟩) (show w.heap.size ≠ w.heap.size + 1 by omega) _, heap_setCell_same w2 (w.heap.size + 1) 1 _ _ _ hb2, World.ownsRow_nil _ _ _ _, h2.other (a := ⟨w.heap.size + 1, 1, none⟩) (show w.heap.size + 1 ≠ sb by omega) (show w.heap.size + 1 ≠ g by omega) _, (HK0.out.trans kb3).new (a := ⟨w.heap.size + 1, 1, none⟩) (show w.heap.size ≤ w.heap.size + 1 by omega) _, (HA0.out.word).num hc, .inl (by simp)⟩
  have HRK := Lib.hid hRK
  clear kb3 hb2 hres hRK h1 h2 kb1 kb2 hc HI0 HS0 HK0 HA0 WD
  go_wp2
  go_loopw [4, 5, 6] (fun _ _ _ wr => ∃ (va : Value) (its : List (Int × Int)) (q : Nat × Nat), Hid (RKn sb g C L R w c va its q wr)) (fun _ _ _ wr => leftD sb L.length wr)
  case atStart => exact ⟨_, [], _, HRK⟩
  case round =>
    obtain ⟨va, its, q, hA⟩ := hrel
    have HA := Lib.hid hA.out
    clear hA HRK
    obtain ⟨A, cp, rfl⟩ := own_sliceP HA.out.own
    obtain ⟨k, e⟩ := q
    obtain ⟨c0, c1, c2, _, _⟩ := HA.out.st.cells
    have hs1 := HA.out.st.size
    simp only at c1 c2
    have hklt : k < L.length := HA.out.st.lt
    have HL := Lib.hid HA.out.st.left
    by_cases h0 : e = 0
    · subst h0
      have IS1 := IS (k, 0) wr HA.out.st
      simp only at IS1
      have halt : (itemsG L its k).nx (fun l k3 => .ok (⟨0, c, l, [], 0, []⟩ : In) k3) = R := by
        rcases HA.out.alt with ⟨_, h⟩ | ⟨h, _⟩
        · exact h
        · exact absurd rfl h
      have hlen : its.length ≤ 4096 := by
        rcases HA.out.len with h | ⟨_, h⟩
        · exact h
        · exact absurd rfl h
      rw [itemsG_eq hE its hklt] at halt
      cases hw : isW L itemW k with
      | false =>
        rw [hw] at IS1 halt
        have HRR := Lib.hid (show Rd.ok (⟨0, c, its, [], 0, []⟩ : In) k = R from halt)
        clear halt WI NB FL
        go_wp2_with fail
        with_reducible refine IS1.mono ?_
        rintro r w3 ⟨rfl, b3⟩
        have hbx := HA.out.box.next b3
        have hrs := HA.out.res.next b3
        obtain ⟨d0, d1, d2, d3, d4, d5⟩ := hbx.box
        obtain ⟨e0, e1, e2, e3, e4, e5⟩ := hrs.box
        have f := hrs.free
        have f0 := f 0
        have f1 := f 1
        have f2 := f 2
        have f3 := f 3
        have f4 := f 4
        have f5 := f 5
        have HO := Lib.hid (own_next HA.out.own b3)
        have HS := Lib.hid (HA.out.st.next b3)
        have HK := Lib.hid (HA.out.kb.next b3)
        clear f hbx hrs b3 IS1 c0 c1 c2
        go_wp2
        refine bodyPost_ret (v := inV ⟨0, c, its, [], 0, []⟩ (.slice A its.length cp) (.slice none 0 0) (.slice none 0 0)) (by simp [results, Tryz.results30, go_sem, inV, e0, e1, e2, e3, e4, e5]) rfl ?_
        exact ⟨_, (k, 0), _, _, _, _, _, _, _, _, _, _, _, _, rfl, rfl, HS.out.set6 (by omega) (by omega), HK.out.set6 (Nat.le_refl _), .inl ⟨rfl, _, HRR.out.symm, ins_items (own_set6 HO.out (by omega)) (by omega)⟩⟩
      | true =>
        rw [hw] at IS1 halt
        simp only [if_true] at halt
        by_cases h46 : its.length = 4096
        · have e1 : nF 22 (k, 0) = (k, 22) := rfl
          have hge : (4096 : Int) ≤ (its.length : Int) := by omega
          have FL1 := FL (k, 0)
          rw [e1] at FL1
          have w1 : nW L itemW (k, 22) = (k, 22) := nW_snd (by show (22 : Nat) ≠ 0; omega)
          have n1 : nN L 0 2147483648 (k, 22) = (k, 22) := nN_snd (by show (22 : Nat) ≠ 0; omega)
          have WI1 := WI (k, 22)
          rw [w1] at WI1
          have NB1 := NB (k, 22)
          rw [n1] at NB1
          rw [if_pos h46] at halt
          have hfin : ∀ l : List (Int × Int), Alt (fun k => (itemsG L l k).nx fun l k3 => .ok (⟨0, c, l, [], 0, []⟩ : In) k3) R (k, 22) := fun l => .inr ⟨by show (22 : Nat) ≠ 0; omega, halt.symm⟩
          have HFIN := Lib.hid hfin
          clear halt WI NB FL hfin e1 w1 n1 IS h46
          go_wp2_with fail
          with_reducible refine IS1.mono ?_
          rintro r w3 ⟨rfl, b3⟩
          have hbx := HA.out.box.next b3
          obtain ⟨d0, d1, d2, d3, d4, d5⟩ := hbx.box
          have hS3 := HA.out.st.next b3
          go_wp2_with fail
          with_reducible refine (FL1 _ hS3).mono ?_
          rintro r w4 ⟨rfl, h4, kb4⟩
          go_wp2_with fail
          with_reducible refine (WI1 _ h4).mono ?_
          rintro r w5 ⟨rfl, h5, kb5⟩
          go_wp2_with fail
          with_reducible refine (NB1 _ h5).mono ?_
          rintro r w6 ⟨v, rfl, _, h6, kb6⟩
          go_wp2_with fail
          with_reducible refine (NB1 _ h6).mono ?_
          rintro r w7 ⟨u, rfl, _, h7, kb7⟩
          have HK := Lib.hid (((((Kb.of (r := sb) b3).trans kb4).trans kb5).trans kb6).trans kb7)
          have HS := Lib.hid h7
          have HFA := Lib.hid (HFIN.out (its ++ [(v, u)]))
          have HLE := Lib.hid (show (its ++ [(v, u)]).length ≤ 4096 ∨ ((its ++ [(v, u)]).length ≤ 4097 ∧ ((k, 22) : Nat × Nat).2 ≠ 0) from .inr ⟨by simp; omega, by show (22 : Nat) ≠ 0; omega⟩)
          clear d0 d1 d2 d3 d4 d5 hbx b3 kb4 kb5 kb6 kb7 h4 h5 h6 h7 hS3 IS1 FL1 WI1 NB1 HFIN c0 c1 c2
          obtain ⟨hrs, hbx, hown, hkb⟩ := HA.out.kb' hs0 HK.out
          have HX := Lib.hid (fun g' cap' w8 a b => rkn_step (w := w) (R := R) (c := c) (va := .slice A its.length cp) (its := its) (v := v) (u := u) (q := (k, 22)) hs0 hg0 hrs hbx hown hkb HS.out HFA.out HLE.out (g' := g') (cap' := cap') (w8 := w8) a b)
          have HOW := Lib.hid (hown.alloc (.cells #[.int .i64 v, .int .i64 u] 64))
          obtain ⟨d0, d1, d2, d3, d4, d5⟩ := hbx.box
          have hblt := hbx.lt
          have HBX := Lib.hid hbx
          clear hrs hbx hown hkb
          go_wp2_with (at_builtin; refine wpList_append_lies _ rfl _ _ 22 rfl (w.heap.size + 2) 64 i0 (.agg #[.int .i64 0, .int .i64 0]) 2 16 Tryz.underlying22 hi0 hz01 hz02 hz03 rfl (by decide) _ _ _ rfl HOW.out ⟨w7.heap.size, 0, none⟩ 1 1 [.int .i64 v, .int .i64 u] rfl rfl (World.news_of_block (heap_alloc_new _ _)) (two_oneP _ _) (by omega) (by unfold maxLen; omega) (by omega) (by simp; omega) _ rfl ?_)
          intro g' cap' w8 hown' hgrow hat hlt8
          have HE := Lib.hid (HX.out _ _ _ hown' hgrow)
          have hbk := (HBX.out.next (new_below _ (.cells #[.int .i64 v, .int .i64 u] 64))).keep (hgrow.block (w.heap.size + 1) (by simp; omega) (fun e => by have := (HOW.out.lt _ e.symm).1; omega))
          have ow := hbk.box.c2
          have fw := hbk.free 2
          clear hbk hown' hgrow hat HX HOW HBX d0 d1 d2 d3 d4 d5
          go_wp2
          go_roundw
          case rel => exact ⟨_, its ++ [(v, u)], (k, 22), HE.out⟩
          case measure =>
            have e1 := HE.out.st.left
            have e2 := HL.out
            rw [e1, e2]
            simp
            omega
        · have hlt46 : its.length < 4096 := by omega
          have hge : ¬ (4096 : Int) ≤ (its.length : Int) := by omega
          have w1 : nW L itemW (k, 0) = (k + 1, 0) := by unfold nW; rw [if_pos rfl]; exact if_pos hw
          have WI1 := WI (k, 0)
          rw [w1] at WI1
          have NB1 := NB (k + 1, 0)
          have NB2 := NB (nN L 0 2147483648 (k + 1, 0))
          rw [if_neg h46, nx_assoc] at halt
          have ha1 : Alt (fun j => (numR L 0 2147483648 22 j).nx fun v k2 => (numR L 0 2147483648 22 k2).nx fun u k3 => (itemsG L (its ++ [(v, u)]) k3).nx fun l k3 => .ok (⟨0, c, l, [], 0, []⟩ : In) k3) R (k + 1, 0) := by
            refine .inl ⟨rfl, ?_⟩
            rw [← halt]
            show (numR L 0 2147483648 22 (k + 1)).nx _ = (numR L 0 2147483648 22 (k + 1)).nx _
            congr 1
            funext v k2
            exact (nx_assoc _ _ _).symm
          have hk1l := isW_goes hE hw
          have HA1 := Lib.hid ha1
          have HQ := Lib.hid (show k + 1 ≤ (nN L 0 2147483648 (nN L 0 2147483648 (k + 1, 0))).1 from Nat.le_trans (nN_fst hE (q := (k + 1, 0)) hk1l) (nN_fst2 hE hk1l))
          clear halt WI NB FL w1 IS h46 ha1 hk1l
          go_wp2_with fail
          with_reducible refine IS1.mono ?_
          rintro r w3 ⟨rfl, b3⟩
          have hbx := HA.out.box.next b3
          obtain ⟨d0, d1, d2, d3, d4, d5⟩ := hbx.box
          have hS3 := HA.out.st.next b3
          go_wp2_with fail
          with_reducible refine (WI1 _ hS3).mono ?_
          rintro r w5 ⟨rfl, h5, kb5⟩
          go_wp2_with fail
          with_reducible refine (NB1 _ h5).mono ?_
          rintro r w6 ⟨v, rfl, hv, h6, kb6⟩
          go_wp2_with fail
          with_reducible refine (NB2 _ h6).mono ?_
          rintro r w7 ⟨u, rfl, hu, h7, kb7⟩
          have HK := Lib.hid ((((Kb.of (r := sb) b3).trans kb5).trans kb6).trans kb7)
          have HS := Lib.hid h7
          have HFA := Lib.hid ((HA1.out.num (fun m k' _ hm => by first | exact hv m k' trivial hm | exact hv m k' rfl hm)).num hu)
          have HLE := Lib.hid (show (its ++ [(v, u)]).length ≤ 4096 ∨ ((its ++ [(v, u)]).length ≤ 4097 ∧ (nN L 0 2147483648 (nN L 0 2147483648 (k + 1, 0))).2 ≠ 0) from .inl (by simp; omega))
          clear d0 d1 d2 d3 d4 d5 hbx b3 kb5 kb6 kb7 h5 h6 h7 hS3 IS1 WI1 NB1 NB2 HA1 c0 c1 c2 hv hu
          generalize nN L 0 2147483648 (nN L 0 2147483648 (k + 1, 0)) = qf at *
          obtain ⟨hrs, hbx, hown, hkb⟩ := HA.out.kb' hs0 HK.out
          have HX := Lib.hid (fun g' cap' w8 a b => rkn_step (w := w) (R := R) (c := c) (va := .slice A its.length cp) (its := its) (v := v) (u := u) (q := qf) hs0 hg0 hrs hbx hown hkb HS.out HFA.out HLE.out (g' := g') (cap' := cap') (w8 := w8) a b)
          have HOW := Lib.hid (hown.alloc (.cells #[.int .i64 v, .int .i64 u] 64))
          obtain ⟨d0, d1, d2, d3, d4, d5⟩ := hbx.box
          have hblt := hbx.lt
          have HBX := Lib.hid hbx
          clear hrs hbx hown hkb
          go_wp2_with (at_builtin; refine wpList_append_lies _ rfl _ _ 22 rfl (w.heap.size + 2) 64 i0 (.agg #[.int .i64 0, .int .i64 0]) 2 16 Tryz.underlying22 hi0 hz01 hz02 hz03 rfl (by decide) _ _ _ rfl HOW.out ⟨w7.heap.size, 0, none⟩ 1 1 [.int .i64 v, .int .i64 u] rfl rfl (World.news_of_block (heap_alloc_new _ _)) (two_oneP _ _) (by omega) (by unfold maxLen; omega) (by omega) (by simp; omega) _ rfl ?_)
          intro g' cap' w8 hown' hgrow hat hlt8
          have HE := Lib.hid (HX.out _ _ _ hown' hgrow)
          have hbk := (HBX.out.next (new_below _ (.cells #[.int .i64 v, .int .i64 u] 64))).keep (hgrow.block (w.heap.size + 1) (by simp; omega) (fun e => by have := (HOW.out.lt _ e.symm).1; omega))
          have ow := hbk.box.c2
          have fw := hbk.free 2
          clear hbk hown' hgrow hat HX HOW HBX d0 d1 d2 d3 d4 d5
          go_wp2
          go_roundw
          case rel => exact ⟨_, its ++ [(v, u)], qf, HE.out⟩
          case measure =>
            have e1 := HE.out.st.left
            have e2 := HL.out
            have e3 := HQ.out
            have e4 := HE.out.st.lt
            rw [e1, e2]
            simp only [if_true]
            split <;> omega
    · have he : ¬ (e : Int) = 0 := by omega
      have HRR := Lib.hid (show R = .no k e by
        rcases HA.out.alt with ⟨h, _⟩ | ⟨_, h⟩
        · exact absurd h h0
        · exact h)
      obtain ⟨d0, d1, d2, d3, d4, d5⟩ := HA.out.box.box
      obtain ⟨e0, e1, e2, e3, e4, e5⟩ := HA.out.res.box
      have f := HA.out.res.free
      have f0 := f 0
      have f1 := f 1
      have f2 := f 2
      have f3 := f 3
      have f4 := f 4
      have f5 := f 5
      have hz := HA.out.res.lt
      clear f WI NB FL IS
      go_wp2
      refine bodyPost_ret (v := inV ⟨0, c, its, [], 0, []⟩ (.slice A its.length cp) (.slice none 0 0) (.slice none 0 0)) (by simp [results, Tryz.results30, go_sem, inV, e0, e1, e2, e3, e4, e5]) rfl ?_
      exact ⟨_, (k, e), _, _, _, _, _, _, _, _, _, _, _, _, rfl, rfl, HA.out.st.set6 (by omega) (by omega), HA.out.kb.set6 (Nat.le_refl _), .inr ⟨h0, HRR.out⟩⟩
end Go.Proofs.YtbadingdklenhaaGreatDoor

/-
  What the document's square does with tokens.
-/
namespace Go.Proofs.YtbadingdklenhaaGreatDoor
set_option maxRecDepth 100000
open Go.RowKit

/-- What stands while the document's square reads rows. -/
structure RSq (sb g C : Nat) (L : List Tk) (N : Nat) (hb : Bool) (F : List (List Int) → Nat → Rd In) (R : Rd In) (kind : Int) (w : World) (va : Value) (us : List Value) (acc : List (List Int)) (q : Nat × Nat) (wr : World) : Prop where
  mk ::
  res : IBlk w.heap.size 36 (.int .i64 0) (.int .i64 0) (.slice none 0 0) (.slice none 0 0) (.int .i64 0) (.slice none 0 0) wr
  box : IBlk (w.heap.size + 1) 36 (.int .i64 kind) (.int .i64 0) (.slice none 0 0) va (.int .i64 0) (.slice none 0 0) wr
  own : wr.ownsRow (w.heap.size + 2) 68 1 va acc.length us
  ul : us.length = acc.length
  rows : ∀ (i : Nat) r v, acc[i]? = some r → us[i]? = some v → Ints (CvF (w.heap.size + 1) va) wr v r
  st : St sb g C L q wr
  kb : Kb sb w wr
  alt : Alt (fun k => (rowsR L N hb (N - acc.length) acc k).nx F) R q
  len : acc.length ≤ N
/-- What stands while a row is read, since the world wo. -/
structure RRw (sb g C : Nat) (L : List Tk) (N : Nat) (hb : Bool) (F : List (List Int) → Nat → Rd In) (R : Rd In) (acc : List (List Int)) (wo : World) (vr : Value) (row : List Int) (q : Nat × Nat) (wr : World) : Prop where
  mk ::
  own : wr.ownsRow wo.heap.size 2 1 vr row.length (nl row)
  st : St sb g C L q wr
  kb : Kb sb wo wr
  alt : Alt (fun k => (cellsR L acc.length hb (N - row.length) row k).nx fun r k1 => (rowsR L N hb (N - (acc.length + 1)) (acc ++ [r]) k1).nx F) R q
  len : row.length ≤ N
section
variable {sb g C : Nat} {L : List Tk} {N : Nat} {hb : Bool} {F : List (List Int) → Nat → Rd In} {R : Rd In} {kind : Int} {w : World} {va : Value} {us : List Value} {acc : List (List Int)} {q q' : Nat × Nat} {wr w' w8 : World}
/-- All but the reader, in a later world. -/
theorem RSq.kb' (h : RSq sb g C L N hb F R kind w va us acc q wr) (hs : sb < w.heap.size) (kb : Kb sb wr w') : IBlk w.heap.size 36 (.int .i64 0) (.int .i64 0) (.slice none 0 0) (.slice none 0 0) (.int .i64 0) (.slice none 0 0) w' ∧ IBlk (w.heap.size + 1) 36 (.int .i64 kind) (.int .i64 0) (.slice none 0 0) va (.int .i64 0) (.slice none 0 0) w' ∧ w'.ownsRow (w.heap.size + 2) 68 1 va acc.length us ∧ (∀ (i : Nat) r v, acc[i]? = some r → us[i]? = some v → Ints (CvF (w.heap.size + 1) va) w' v r) ∧ Kb sb w w' :=
  ⟨h.res.kb kb (by omega), h.box.kb kb (by omega), kb.own (by omega) h.own, fun i r v a b => (h.rows i r v a b).held (kb.held (fun q hq => by have := hq.1; omega)), h.kb.trans kb⟩
theorem RSq.step (h : RSq sb g C L N hb F R kind w va us acc q wr) (hs0 : sb < w.heap.size) (hg0 : g < w.heap.size) {wo : World} (kb0 : Kb sb wr wo) {vr : Value} {row : List Int} (hr : RRw sb g C L N hb F R acc wo vr row q' w') (hlt : acc.length < N) (hal : Alt (fun k1 => (rowsR L N hb (N - (acc.length + 1)) (acc ++ [row]) k1).nx F) R q')
    {g' cap' : Nat} (ho : w8.ownsRow (w.heap.size + 2) 68 1 (.slice (some ⟨g', 0, none⟩) (acc.length + 1) cap') (acc.length + 1) (us ++ [vr])) (hgr : (w'.alloc (.cells #[vr] 68)).grownBy w8 va.ownBlock) (hat : va.ownBlock = some g' ∨ g' = (w'.alloc (.cells #[vr] 68)).heap.size) :
    RSq sb g C L N hb F R kind w (.slice (some ⟨g', 0, none⟩) (acc.length + 1) cap') (us ++ [vr]) (acc ++ [row]) q' (w8.setCell ⟨w.heap.size + 1, 3, none⟩ (.slice (some ⟨g', 0, none⟩) (acc.length + 1) cap')) := by
  obtain ⟨r1, b1, o1, rw1, k1⟩ := h.kb' hs0 (kb0.trans hr.kb)
  have hrow : ∀ k, va.ownBlock = some k → w.heap.size + 2 ≤ k := fun k hk => (h.own.lt k hk).1
  have hrowlt : ∀ k, va.ownBlock = some k → k < wr.heap.size := fun k hk => (h.own.lt k hk).2
  have hwo := kb0.size
  have nb := new_below w' (.cells #[vr] 68)
  have r2 := r1.next nb
  have b2 := b1.next nb
  have hvr : Ints (CvF (w.heap.size + 1) va) w' vr row := Lies.imp (lies_of_own hr.own) (fun x hx => by
    have h1 := (hr.own.lt x hx).1
    have h2 := h.box.lt
    exact ⟨by omega, fun e => by have := hrowlt x e; omega⟩)
  have up : ∀ {v : Value} {m : List Int}, Ints (CvF (w.heap.size + 1) va) w' v m → Ints (CvF (w.heap.size + 1) (.slice (some ⟨g', 0, none⟩) (acc.length + 1) cap')) (w8.setCell ⟨w.heap.size + 1, 3, none⟩ (.slice (some ⟨g', 0, none⟩) (acc.length + 1) cap')) v m := fun {v m} x => by
    have x1 : Ints (fun y => CvF (w.heap.size + 1) va y ∧ y < (w'.alloc (.cells #[vr] 68)).heap.size) (w'.alloc (.cells #[vr] 68)) v m := Lies.lts (x.next nb)
    refine Lies.imp ((x1.held (grown_held hgr (fun b hb => hb.1.2))).held (set_held (a := ⟨w.heap.size + 1, 3, none⟩) (fun y hy => Nat.ne_of_gt hy.1.1))) (fun y hy => ⟨hy.1.1, fun e => ?_⟩)
    have e2 : g' = y := by simpa [Value.ownBlock] using e
    subst e2
    rcases hat with h1 | h1
    · exact hy.1.2 h1
    · have := hy.2; omega
  refine ⟨(r2.keep (hgr.block _ r2.lt (fun e => by have := hrow _ e.symm; omega))).other (a := ⟨w.heap.size + 1, 3, none⟩) (show w.heap.size ≠ w.heap.size + 1 by omega) _, (b2.keep (hgr.block _ b2.lt (fun e => by have := hrow _ e.symm; omega))).set3 _, ?_, by simp [h.ul], fun i r v a b => ?_, ((hr.st.next nb).grown hgr (B := w.heap.size + 2) ⟨by omega, by omega⟩ hrow).other (a := ⟨w.heap.size + 1, 3, none⟩) (show w.heap.size + 1 ≠ sb by omega) (show w.heap.size + 1 ≠ g by omega) _, ((k1.next nb).grown hgr (fun k hk => by have := hrow k hk; omega)).new (a := ⟨w.heap.size + 1, 3, none⟩) (show w.heap.size ≤ w.heap.size + 1 by omega) _, ?_, by simp; omega⟩
  · rw [List.length_append, List.length_singleton]
    exact ownsRow_setCell_below (a := ⟨w.heap.size + 1, 3, none⟩) ho (show w.heap.size + 1 < w.heap.size + 2 by omega) _
  · have hul := h.ul
    rcases Nat.lt_or_ge i acc.length with hi | hi
    · rw [List.getElem?_append_left hi] at a
      rw [List.getElem?_append_left (by omega)] at b
      exact up (rw1 i r v a b)
    · have hi2 : i = acc.length := by
        have := (List.getElem?_eq_some_iff.1 a).1
        simp at this
        omega
      subst hi2
      rw [List.getElem?_append_right (Nat.le_refl _), Nat.sub_self] at a
      rw [← hul, List.getElem?_append_right (Nat.le_refl _), Nat.sub_self] at b
      obtain rfl : row = r := by simpa using a
      obtain rfl : vr = v := by simpa using b
      exact up hvr
  · rw [List.length_append, List.length_singleton]; exact hal
theorem RRw.step {wo : World} {vr : Value} {row : List Int} {g' cap' : Nat} {w1 : World} {c : Int} (h : RRw sb g C L N hb F R acc wo vr row q wr) (hs0 : sb < wo.heap.size) (hg0 : g < wo.heap.size) (kb : Kb sb wr w1) (h1 : St sb g C L q' w1) (hlt : row.length < N) (hal : Alt (fun k => (cellsR L acc.length hb (N - (row.length + 1)) (row ++ [c]) k).nx fun r k1 => (rowsR L N hb (N - (acc.length + 1)) (acc ++ [r]) k1).nx F) R q')
    (ho : w8.ownsRow wo.heap.size 2 1 (.slice (some ⟨g', 0, none⟩) (row.length + 1) cap') (row.length + 1) (nl row ++ [.int .i64 c])) (hgr : (w1.alloc (.cells #[.int .i64 c] 2)).grownBy w8 vr.ownBlock) : RRw sb g C L N hb F R acc wo (.slice (some ⟨g', 0, none⟩) (row.length + 1) cap') (row ++ [c]) q' w8 := by
  have hrow : ∀ k, vr.ownBlock = some k → wo.heap.size ≤ k := fun k hk => (h.own.lt k hk).1
  have nb := new_below w1 (.cells #[.int .i64 c] 2)
  refine ⟨?_, (h1.next nb).grown hgr (B := wo.heap.size) ⟨hs0, hg0⟩ hrow, ((h.kb.trans kb).next nb).grown hgr hrow, ?_, by simp; omega⟩
  · rw [List.length_append, List.length_singleton, nl_append]; exact ho
  · rw [List.length_append, List.length_singleton]; exact hal
end
theorem one_headP (A : Option Addr) (n C : Nat) : ∀ u ∈ [Value.slice A n C], u.oneCell' = true := by
  intro u hu
  simp at hu
  rw [hu]; rfl
theorem one_int (c : Int) : ∀ u ∈ [Value.int .i64 c], u.oneCell' = true := by
  intro u hu
  simp at hu
  rw [hu]; rfl
end Go.Proofs.YtbadingdklenhaaGreatDoor

/-
  What the document's square does with tokens.
-/
namespace Go.Proofs.YtbadingdklenhaaGreatDoor
set_option maxRecDepth 100000
open Go.RowKit

theorem ins_rowsL {w : World} {B M : Nat} {kind : Int} {v : Value} {R : List (List Int)} {us : List Value} {t : TypeId} (h : w.ownsRow B t 1 v R.length us) (hM : M ≤ B) (hu : us.length = R.length) (hr : ∀ (i : Nat) q v, R[i]? = some q → us[i]? = some v → Ints (fun b => M ≤ b) w v q) :
    Ins (fun b => M ≤ b) (fun b => M ≤ b) w (inV ⟨kind, 0, [], R, 0, []⟩ (.slice none 0 0) v (.slice none 0 0)) ⟨kind, 0, [], R, 0, []⟩ := by
  have hl := fun q hq => (h.lt q hq).1
  exact ⟨⟨.slice none 0 0, v, .slice none 0 0, us, [], rfl, Lies.nil _ _ _, ⟨hu, Lies.imp (lies_of_own h) (fun q hq => Nat.le_trans hM (hl q hq)), hr⟩, ⟨rfl, Lies.nil _ _ _, fun i r u a => by simp at a⟩⟩⟩
set_option maxHeartbeats 8000000 in
theorem rsquare_any (sb g C : Nat) (L : List Tk) (hE : EndL L) (k0 : Nat) (kind : Int) (w : World) (h : St sb g C L (k0, 0) w) :
    Calls Tryz.prog 31 #[.pointer (some ⟨sb, 0, none⟩), .int .i64 kind] w (RIs sb g C L (squareR L kind k0) w) := by
  have NB0 := fun q W hW => rnumber_any sb g C L hE q 1 64 W hW
  have NB := fun q W hW => rnumber_any sb g C L hE q (-2147483648) 2147483648 W hW
  have WI := fun q W hW => rword_any sb g C L hE q ⟨#[114, 111, 119]⟩ rowW rfl W hW
  have FL := fun q W hW => rfail_any sb g C L q 4 4 rfl W hW
  obtain ⟨i0, hi0, hz01, hz02, hz03⟩ := info_parts infoRw
  obtain ⟨j0, hj0, hy01, hy02, hy03⟩ := info_parts infoN
  have hs0 := h.size
  have hg0 := h.toks.1
  have HI0 := Lib.hid (And.intro ((iblk_new w (.int .i64 0) (.int .i64 0) (.slice none 0 0) (.slice none 0 0) (.int .i64 0) (.slice none 0 0) 36).next (new_below _ (.cells #[.int .i64 kind, .int .i64 0, .slice none 0 0, .slice none 0 0, .int .i64 0, .slice none 0 0] 36)))
    (by have := iblk_new (w.alloc (.cells #[.int .i64 0, .int .i64 0, .slice none 0 0, .slice none 0 0, .int .i64 0, .slice none 0 0] 36)) (.int .i64 kind) (.int .i64 0) (.slice none 0 0) (.slice none 0 0) (.int .i64 0) (.slice none 0 0) 36; rw [World.size_alloc] at this; exact this))
  have HS0 := Lib.hid ((h.next (new_below _ (.cells #[.int .i64 0, .int .i64 0, .slice none 0 0, .slice none 0 0, .int .i64 0, .slice none 0 0] 36))).next (new_below _ (.cells #[.int .i64 kind, .int .i64 0, .slice none 0 0, .slice none 0 0, .int .i64 0, .slice none 0 0] 36)))
  have HK0 := Lib.hid (((Kb.refl sb w).alloc (.cells #[.int .i64 0, .int .i64 0, .slice none 0 0, .slice none 0 0, .int .i64 0, .slice none 0 0] 36)).alloc (.cells #[.int .i64 kind, .int .i64 0, .slice none 0 0, .slice none 0 0, .int .i64 0, .slice none 0 0] 36))
  rcases nN_ok (L := L) (lo := 1) (hi := 64) (q := (k0, 0)) with ⟨_, x, k1, e1, e2⟩ | ⟨_, j, er, e1, e2⟩ | ⟨q0, _⟩
  · obtain ⟨_, _, _, _, hx1, hx2, _⟩ := numR_ok e1
    obtain ⟨N, rfl⟩ : ∃ N : Nat, x = (N : Int) := ⟨x.toNat, by omega⟩
    have hN2 : N ≤ 64 := by omega
    obtain ⟨hb, hhb⟩ : ∃ b, (kind == 2) = b := ⟨_, rfl⟩
    have hdb : decide (kind = 2) = hb := by rw [← hhb]; by_cases q : kind = 2 <;> simp [q]
    have hsq : squareR L kind k0 = (rowsR L N (decide (kind = 2)) N [] k1).nx fun R k2 => .ok ⟨kind, 0, [], R, 0, []⟩ k2 := by
      have e1' : numR L 1 64 22 k0 = .ok (N : Int) k1 := e1
      unfold squareR
      rw [e1']
      simp only [Rd.nx, Int.toNat_natCast]
    rw [hdb] at hsq
    have hF : ∀ l j, (fun (R : List (List Int)) (k2 : Nat) => Rd.ok (⟨kind, 0, [], R, 0, []⟩ : In) k2) l j = .ok ⟨kind, 0, [], l, 0, []⟩ j := fun _ _ => rfl
    obtain ⟨F, hFe⟩ : ∃ F, (fun (R : List (List Int)) (k2 : Nat) => Rd.ok (⟨kind, 0, [], R, 0, []⟩ : In) k2) = F := ⟨_, rfl⟩
    rw [hFe] at hsq hF
    obtain ⟨R, hR⟩ : ∃ R, squareR L kind k0 = R := ⟨_, rfl⟩
    rw [hR] at hsq ⊢
    have HF := Lib.hid hF
    have ha0 : Alt (fun k => (rowsR L N hb (N - ([] : List (List Int)).length) [] k).nx F) R (k1, 0) := .inl ⟨rfl, hsq.symm⟩
    have HA0 := Lib.hid ha0
    have NB1 := fun W hW => NB0 (k0, 0) W hW
    rw [e2] at NB1
    have He1 := Lib.hid e1
    clear e1 e2 hdb hsq hF hFe hR ha0 h hx1 hx2 NB0
    go_enter Tryz.func31, Tryz.ntmps31
    go_wp2_with fail
    with_reducible refine (NB1 _ HS0.out).mono ?_
    rintro r w2 ⟨n, rfl, hn, h2, kb2⟩
    obtain rfl : n = (N : Int) := hn _ _ (by first | rfl | trivial) He1.out
    have hRS : RSq sb g C L N hb F R kind w (.slice none 0 0) [] [] (k1, 0) w2 :=
      ⟨HI0.out.1.kb kb2 (by omega), HI0.out.2.kb kb2 (by omega), World.ownsRow_nil _ _ _ _, rfl, fun i r v a => by simp at a, h2, HK0.out.trans kb2, HA0.out, by simp⟩
    have HRS := Lib.hid hRS
    clear hRS h2 kb2 hn HI0 HS0 HK0 HA0 NB1 He1
    go_wp2
    go_loopw [7, 8, 9, 10, 11] (fun i _ _ _ _ wr => ∃ (va : Value) (us : List Value) (acc : List (List Int)) (q : Nat × Nat), i = .int .i64 (acc.length : Nat) ∧ Hid (RSq sb g C L N hb F R kind w va us acc q wr)) (fun i _ _ _ _ _ => N - (intOf i).toNat)
    case atStart => exact ⟨_, [], [], _, rfl, HRS⟩
    case round =>
      obtain ⟨va, us, acc, q, rfl, hA⟩ := hrel
      have HA := Lib.hid hA.out
      clear hA HRS
      obtain ⟨A, cp, rfl⟩ := own_sliceP HA.out.own
      obtain ⟨k, e⟩ := q
      obtain ⟨c0, c1, c2, _, _⟩ := HA.out.st.cells
      have hs1 := HA.out.st.size
      simp only at c1 c2
      have hklt : k < L.length := HA.out.st.lt
      have hlen := HA.out.len
      by_cases hgo : e = 0 ∧ acc.length < N
      · obtain ⟨rfl, hlt⟩ := hgo
        have i1 : (acc.length : Int) < (N : Int) := by omega
        have WI1 := WI (k, 0) wr HA.out.st
        obtain ⟨m, hm⟩ : ∃ m, N - acc.length = m + 1 := ⟨N - acc.length - 1, by omega⟩
        have halt : (rowsR L N hb (N - acc.length) acc k).nx F = R := by
          rcases HA.out.alt with ⟨_, h⟩ | ⟨h, _⟩
          · exact h
          · exact absurd rfl h
        rw [hm, rowsR_succ, nx_assoc, show m = N - (acc.length + 1) by omega] at halt
        have hal0 : Alt (fun k => (wordR L rowW k).nx fun _ k1 => (cellsR L acc.length hb N [] k1).nx fun r k1 => (rowsR L N hb (N - (acc.length + 1)) (acc ++ [r]) k1).nx F) R (k, 0) := by
          refine .inl ⟨rfl, ?_⟩
          rw [← halt]
          show _ = ((wordR L rowW k).nx _).nx _
          rw [nx_assoc]
        have HAL := Lib.hid hal0.word
        clear halt hal0
        go_wp2_with fail
        with_reducible refine WI1.mono ?_
        rintro r w3 ⟨rfl, h3, kb3⟩
        generalize nW L rowW (k, 0) = q3 at *
        have hRW : RRw sb g C L N hb F R acc w3 (.slice none 0 0) [] q3 w3 := ⟨World.ownsRow_nil _ _ _ _, h3, Kb.refl _ _, HAL.out, by simp⟩
        have HRW := Lib.hid hRW
        have HKB := Lib.hid kb3
        have hs3 : sb < w3.heap.size := h3.size
        have hg3 : g < w3.heap.size := h3.toks.1
        clear hRW h3 kb3 HAL WI1 c0 c1 c2
        go_wp2
        obtain ⟨wo, rfl⟩ : ∃ q, q = wr := ⟨_, rfl⟩
        go_loopw [8, 9, 10, 11] (fun vr j _ _ wi => ∃ (row : List Int) (q : Nat × Nat), j = .int .i64 (row.length : Nat) ∧ Hid (RRw sb g C L N hb F R acc w3 vr row q wi)) (fun _ j _ _ _ => N - (intOf j).toNat)
        case atStart => exact ⟨[], _, rfl, HRW⟩
        case round =>
          obtain ⟨row, q, rfl, hB⟩ := hrel
          have HB := Lib.hid hB.out
          clear hB HRW
          obtain ⟨A', cp', rfl⟩ := own_sliceP HB.out.own
          obtain ⟨k, e⟩ := q
          obtain ⟨c0, c1, c2, f1, f2⟩ := HB.out.st.cells
          have hs4 := HB.out.st.size
          simp only at c1 c2
          have hrl0 := HB.out.len
          by_cases hgo : e = 0 ∧ row.length < N
          · obtain ⟨rfl, hrl⟩ := hgo
            have i2 : (row.length : Int) < (N : Int) := by omega
            have halt : (cellsR L acc.length hb (N - row.length) row k).nx (fun r k1 => (rowsR L N hb (N - (acc.length + 1)) (acc ++ [r]) k1).nx F) = R := by
              rcases HB.out.alt with ⟨_, h⟩ | ⟨h, _⟩
              · exact h
              · exact absurd rfl h
            obtain ⟨m, hm⟩ : ∃ m, N - row.length = m + 1 := ⟨N - row.length - 1, by omega⟩
            rw [hm, cellsR_succ, nx_assoc, show m = N - (row.length + 1) by omega] at halt
            have NB2 := fun W hW => NB (k, 0) W hW
            rcases nN_ok (L := L) (lo := -2147483648) (hi := 2147483648) (q := (k, 0)) with ⟨_, m', k', z1, z2⟩ | ⟨_, j', er', z1, z2⟩ | ⟨z0, _⟩
            · have z1' : numR L (-2147483648) 2147483648 22 k = .ok m' k' := z1
              rw [z1'] at halt
              rw [z2] at NB2
              have HZ := Lib.hid z1'
              by_cases hbad : hb = true ∧ row.length = acc.length ∧ m' ≠ 0
              · have hRR : Rd.no k 4 = R := by
                  rw [← halt]
                  show _ = Rd.nx (if hb = true ∧ row.length = acc.length ∧ m' ≠ 0 then _ else _) _
                  rw [if_pos hbad]
                  rfl
                have HRR := Lib.hid hRR
                clear halt z1 z1' z2 hm
                go_wp2_with fail
                with_reducible refine (NB2 _ HB.out.st).mono ?_
                rintro r w4 ⟨c, rfl, hc, h4, kb4⟩
                obtain rfl : c = m' := hc _ _ (by first | rfl | trivial) HZ.out
                obtain ⟨d0, d1, d2, g1, g2⟩ := h4.cells
                have hs5 := h4.size
                simp only at d1 d2
                have hk2 : (kind == 2) = true := hhb.trans hbad.1
                have hik : ((acc.length : Int) == (row.length : Int)) = true := by simp; omega
                have hcz : (c == 0) = false := by simpa using hbad.2.2
                have hcz2 : ¬ c = 0 := hbad.2.2
                have h5 := h4.goes (k := k) HB.out.st.lt
                have kb5 := kb4.store (a := ⟨sb, 1, none⟩) rfl (.int .i64 (k : Nat))
                have FL5 := FL (k, 0) _ h5
                rw [show nF 4 (k, 0) = (k, 4) from rfl] at FL5
                have hal9 : Alt (fun k => (cellsR L acc.length hb (N - (row.length + 1)) (row ++ [c]) k).nx fun r k1 => (rowsR L N hb (N - (acc.length + 1)) (acc ++ [r]) k1).nx F) R (k, 4) := .inr ⟨by show (4 : Nat) ≠ 0; omega, HRR.out.symm⟩
                have HAL9 := Lib.hid hal9
                have HK5 := Lib.hid kb5
                have hik2 : row.length = acc.length := hbad.2.1
                have HIK := Lib.hid hik2
                clear hbad hik2 hal9 h5 kb5 h4 hc hhb
                go_wp2_with fail
                with_reducible refine FL5.mono ?_
                rintro r w5 ⟨rfl, h6, kb6⟩
                have HOW := Lib.hid ((((HK5.out.trans kb6).own hs3 HB.out.own)).alloc (.cells #[.int .i64 c] 2))
                have HOW2 := Lib.hid (show World.ownsRow _ _ _ _ _ acc.length _ from HIK.out ▸ HOW.out)
                have hsz9 := (HB.out.kb.trans (HK5.out.trans kb6)).size
                have HX := Lib.hid (fun g' cap' w8 a b => HB.out.step (q' := (k, 4)) (c := c) (g' := g') (cap' := cap') (w8 := w8) hs3 hg3 (HK5.out.trans kb6) h6 hrl HAL9.out a b)
                clear c0 c1 c2 f1 f2 d0 d1 d2 g1 g2 FL5 HK5 kb4
                go_wp2_with (at_builtin; refine wpList_append_lies _ rfl _ _ 68 rfl w3.heap.size 2 j0 (.int .i64 0) 1 8 Tryz.underlying68 hj0 hy01 hy02 hy03 rfl (by decide) _ _ _ rfl HOW2.out ⟨w5.heap.size, 0, none⟩ 1 1 [.int .i64 c] rfl rfl (World.news_of_block (heap_alloc_new _ _)) (one_int _) (by omega) (by unfold maxLen; omega) (by omega) (by simp; omega) _ rfl ?_)
                intro g' cap' w8 hown' hgrow hat hlt8
                have HE := Lib.hid (HX.out _ _ _ (by rw [HIK.out]; exact hown') (by rw [HIK.out]; exact hgrow))
                rw [HIK.out] at HE
                clear hown' hgrow hat HX HOW HOW2
                go_wp2
                exact ⟨⟨row ++ [c], (k, 4), by simp [HIK.out], HE⟩, by have := HIK.out; simp [intOf]; omega⟩
              · have hRR : (cellsR L acc.length hb (N - (row.length + 1)) (row ++ [m']) k').nx (fun r k1 => (rowsR L N hb (N - (acc.length + 1)) (acc ++ [r]) k1).nx F) = R := by
                  rw [← halt]
                  show _ = Rd.nx (if hb = true ∧ row.length = acc.length ∧ m' ≠ 0 then _ else _) _
                  rw [if_neg hbad]
                have HRR := Lib.hid hRR
                clear halt z1 z1' z2 hm hRR
                have hcs : (kind == 2) = false ∨ ((kind == 2) = true ∧ ((acc.length : Int) == (row.length : Int)) = false) ∨ ((kind == 2) = true ∧ ((acc.length : Int) == (row.length : Int)) = true ∧ m' = 0) := by
                  cases hb with
                  | false => exact .inl hhb
                  | true =>
                    by_cases hq : row.length = acc.length
                    · refine .inr (.inr ⟨hhb, by simp; omega, Decidable.byContradiction fun h => hbad ⟨rfl, hq, h⟩⟩)
                    · exact .inr (.inl ⟨hhb, by simp; omega⟩)
                clear hbad hhb
                rcases hcs with v1 | ⟨v1, v2⟩ | ⟨v1, v2, v3⟩
                · go_wp2_with fail
                  with_reducible refine (NB2 _ HB.out.st).mono ?_
                  rintro r w4 ⟨c, rfl, hc, h4, kb4⟩
                  obtain rfl : c = m' := hc _ _ (by first | rfl | trivial) HZ.out
                  obtain ⟨d0, d1, d2, g1, g2⟩ := h4.cells
                  have hs5 := h4.size
                  simp only at d1 d2
                  have HAL9 := Lib.hid (show Alt (fun k => (cellsR L acc.length hb (N - (row.length + 1)) (row ++ [c]) k).nx fun r k1 => (rowsR L N hb (N - (acc.length + 1)) (acc ++ [r]) k1).nx F) R (k', 0) from .inl ⟨rfl, HRR.out⟩)
                  have HOW := Lib.hid ((((kb4).own hs3 HB.out.own)).alloc (.cells #[.int .i64 c] 2))
                  have hsz9 := (HB.out.kb.trans (kb4)).size
                  have HX := Lib.hid (fun g' cap' w8 a b => HB.out.step (q' := (k', 0)) (c := c) (g' := g') (cap' := cap') (w8 := w8) hs3 hg3 (kb4) h4 hrl HAL9.out a b)
                  clear c0 c1 c2 f1 f2 hc
                  go_wp2_with (at_builtin; refine wpList_append_lies _ rfl _ _ 68 rfl w3.heap.size 2 j0 (.int .i64 0) 1 8 Tryz.underlying68 hj0 hy01 hy02 hy03 rfl (by decide) _ _ _ rfl HOW.out ⟨w4.heap.size, 0, none⟩ 1 1 [.int .i64 c] rfl rfl (World.news_of_block (heap_alloc_new _ _)) (one_int _) (by omega) (by unfold maxLen; omega) (by omega) (by simp; omega) _ rfl ?_)
                  intro g' cap' w8 hown' hgrow hat hlt8
                  have HE := Lib.hid (HX.out _ _ _ hown' hgrow)
                  clear hown' hgrow hat HX HOW
                  go_wp2
                  exact ⟨⟨row ++ [c], (k', 0), by simp, HE⟩, by simp [intOf]; omega⟩
                · go_wp2_with fail
                  with_reducible refine (NB2 _ HB.out.st).mono ?_
                  rintro r w4 ⟨c, rfl, hc, h4, kb4⟩
                  obtain rfl : c = m' := hc _ _ (by first | rfl | trivial) HZ.out
                  obtain ⟨d0, d1, d2, g1, g2⟩ := h4.cells
                  have hs5 := h4.size
                  simp only at d1 d2
                  have HAL9 := Lib.hid (show Alt (fun k => (cellsR L acc.length hb (N - (row.length + 1)) (row ++ [c]) k).nx fun r k1 => (rowsR L N hb (N - (acc.length + 1)) (acc ++ [r]) k1).nx F) R (k', 0) from .inl ⟨rfl, HRR.out⟩)
                  have HOW := Lib.hid ((((kb4).own hs3 HB.out.own)).alloc (.cells #[.int .i64 c] 2))
                  have hsz9 := (HB.out.kb.trans (kb4)).size
                  have HX := Lib.hid (fun g' cap' w8 a b => HB.out.step (q' := (k', 0)) (c := c) (g' := g') (cap' := cap') (w8 := w8) hs3 hg3 (kb4) h4 hrl HAL9.out a b)
                  clear c0 c1 c2 f1 f2 hc
                  go_wp2_with (at_builtin; refine wpList_append_lies _ rfl _ _ 68 rfl w3.heap.size 2 j0 (.int .i64 0) 1 8 Tryz.underlying68 hj0 hy01 hy02 hy03 rfl (by decide) _ _ _ rfl HOW.out ⟨w4.heap.size, 0, none⟩ 1 1 [.int .i64 c] rfl rfl (World.news_of_block (heap_alloc_new _ _)) (one_int _) (by omega) (by unfold maxLen; omega) (by omega) (by simp; omega) _ rfl ?_)
                  intro g' cap' w8 hown' hgrow hat hlt8
                  have HE := Lib.hid (HX.out _ _ _ hown' hgrow)
                  clear hown' hgrow hat HX HOW
                  go_wp2
                  exact ⟨⟨row ++ [c], (k', 0), by simp, HE⟩, by simp [intOf]; omega⟩
                · have HIK := Lib.hid (show row.length = acc.length by simp at v2; omega)
                  subst v3
                  go_wp2_with fail
                  with_reducible refine (NB2 _ HB.out.st).mono ?_
                  rintro r w4 ⟨c, rfl, hc, h4, kb4⟩
                  obtain rfl : c = 0 := hc _ _ (by first | rfl | trivial) HZ.out
                  obtain ⟨d0, d1, d2, g1, g2⟩ := h4.cells
                  have hs5 := h4.size
                  simp only at d1 d2
                  have HAL9 := Lib.hid (show Alt (fun k => (cellsR L acc.length hb (N - (row.length + 1)) (row ++ [0]) k).nx fun r k1 => (rowsR L N hb (N - (acc.length + 1)) (acc ++ [r]) k1).nx F) R (k', 0) from .inl ⟨rfl, HRR.out⟩)
                  have HOW := Lib.hid ((((kb4).own hs3 HB.out.own)).alloc (.cells #[.int .i64 0] 2))
                  have hsz9 := (HB.out.kb.trans (kb4)).size
                  have HX := Lib.hid (fun g' cap' w8 a b => HB.out.step (q' := (k', 0)) (c := 0) (g' := g') (cap' := cap') (w8 := w8) hs3 hg3 (kb4) h4 hrl HAL9.out a b)
                  clear c0 c1 c2 f1 f2 hc
                  go_wp2_with (at_builtin; refine wpList_append_lies _ rfl _ _ 68 rfl w3.heap.size 2 j0 (.int .i64 0) 1 8 Tryz.underlying68 hj0 hy01 hy02 hy03 rfl (by decide) _ _ _ rfl HOW.out ⟨w4.heap.size, 0, none⟩ 1 1 [.int .i64 0] rfl rfl (World.news_of_block (heap_alloc_new _ _)) (one_int _) (by omega) (by unfold maxLen; omega) (by omega) (by simp; omega) _ rfl ?_)
                  intro g' cap' w8 hown' hgrow hat hlt8
                  have HE := Lib.hid (HX.out _ _ _ hown' hgrow)
                  clear hown' hgrow hat HX HOW
                  go_wp2
                  exact ⟨⟨row ++ [0], (k', 0), by simp, HE⟩, by have := HIK.out; simp [intOf]; omega⟩
            · have z1' : numR L (-2147483648) 2147483648 22 k = .no j' er' := z1
              rw [z1'] at halt
              rw [z2] at NB2
              have her := numR_err z1'
              have HRR := Lib.hid (show R = .no j' er' from halt.symm)
              clear halt z1 z1' z2 hm
              go_wp2_with fail
              with_reducible refine (NB2 _ HB.out.st).mono ?_
              rintro r w4 ⟨c, rfl, hc, h4, kb4⟩
              obtain ⟨d0, d1, d2, g1, g2⟩ := h4.cells
              have hs5 := h4.size
              simp only at d1 d2
              have her2 : ¬ (er' : Int) = 0 := by omega
              have HAL9 := Lib.hid (show Alt (fun k => (cellsR L acc.length hb (N - (row.length + 1)) (row ++ [c]) k).nx fun r k1 => (rowsR L N hb (N - (acc.length + 1)) (acc ++ [r]) k1).nx F) R (j', er') from .inr ⟨her, HRR.out⟩)
              have HOW := Lib.hid ((((kb4).own hs3 HB.out.own)).alloc (.cells #[.int .i64 c] 2))
              have hsz9 := (HB.out.kb.trans (kb4)).size
              have HX := Lib.hid (fun g' cap' w8 a b => HB.out.step (q' := (j', er')) (c := c) (g' := g') (cap' := cap') (w8 := w8) hs3 hg3 (kb4) h4 hrl HAL9.out a b)
              clear c0 c1 c2 f1 f2 hc
              go_wp2_with (at_builtin; refine wpList_append_lies _ rfl _ _ 68 rfl w3.heap.size 2 j0 (.int .i64 0) 1 8 Tryz.underlying68 hj0 hy01 hy02 hy03 rfl (by decide) _ _ _ rfl HOW.out ⟨w4.heap.size, 0, none⟩ 1 1 [.int .i64 c] rfl rfl (World.news_of_block (heap_alloc_new _ _)) (one_int _) (by omega) (by unfold maxLen; omega) (by omega) (by simp; omega) _ rfl ?_)
              intro g' cap' w8 hown' hgrow hat hlt8
              have HE := Lib.hid (HX.out _ _ _ hown' hgrow)
              clear hown' hgrow hat HX HOW
              go_wp2
              exact ⟨⟨row ++ [c], (j', er'), by simp, HE⟩, by simp [intOf]; omega⟩
            · exact absurd rfl z0
          · have hex : (e ≠ 0) ∨ (e = 0 ∧ row.length = N) := by omega
            have hal : Alt (fun k1 => (rowsR L N hb (N - (acc.length + 1)) (acc ++ [row]) k1).nx F) R (k, e) := by
              rcases hex with he | ⟨rfl, he⟩
              · rcases HB.out.alt with ⟨h, _⟩ | h
                · exact absurd h he
                · exact .inr h
              · rcases HB.out.alt with ⟨_, h⟩ | ⟨h, _⟩
                · have h : (cellsR L acc.length hb (N - row.length) row k).nx (fun r k1 => (rowsR L N hb (N - (acc.length + 1)) (acc ++ [r]) k1).nx F) = R := h
                  rw [he, Nat.sub_self] at h
                  exact .inl ⟨rfl, h⟩
                · exact absurd rfl h
            have hte : ((row.length : Int) < (N : Int) ∧ ¬ (e : Int) = 0) ∨ (¬ (row.length : Int) < (N : Int) ∧ ¬ (e : Int) = 0) ∨ (¬ (row.length : Int) < (N : Int) ∧ (e : Int) = 0) := by omega
            obtain ⟨hrs, hbx, hown, hrw, hkb⟩ := HA.out.kb' hs0 (HKB.out.trans HB.out.kb)
            have HX := Lib.hid (fun g' cap' w8 a b d => HA.out.step (q' := (k, e)) (g' := g') (cap' := cap') (w8 := w8) hs0 hg0 HKB.out HB.out hlt hal a b d)
            have HOW := Lib.hid (hown.alloc (.cells #[.slice A' row.length cp'] 68))
            obtain ⟨d0, d1, d2, d3, d4, d5⟩ := hbx.box
            have hblt := hbx.lt
            have HBX := Lib.hid hbx
            clear hex hal hrs hbx hown hrw hkb hgo
            rcases hte with ⟨t1, t2⟩ | ⟨t1, t2⟩ | ⟨t1, t2⟩
            all_goals
              go_wp2_with (at_builtin; refine wpList_append_lies _ rfl _ _ 23 rfl (w.heap.size + 2) 68 i0 (.slice none 0 0) 1 24 Tryz.underlying23 hi0 hz01 hz02 hz03 rfl (by decide) _ _ _ rfl HOW.out ⟨wr.heap.size, 0, none⟩ 1 1 [.slice A' row.length cp'] rfl rfl (World.news_of_block (heap_alloc_new _ _)) (one_headP _ _ _) (by omega) (by unfold maxLen; omega) (by omega) (by simp; omega) _ rfl ?_)
              intro g' cap' w8 hown' hgrow hat hlt8
              have HE := Lib.hid (HX.out _ _ _ hown' hgrow (by rw [World.size_alloc]; exact hat))
              have hbk := (HBX.out.next (new_below _ (.cells #[.slice A' row.length cp'] 68))).keep (hgrow.block (w.heap.size + 1) (by simp; omega) (fun e => by have := (HOW.out.lt _ e.symm).1; omega))
              have ow := hbk.box.c3
              have fw := hbk.free 3
              clear hbk hown' hgrow hat HX HOW HBX d0 d1 d2 d3 d4 d5
              go_wp2
              exact ⟨⟨_, _, acc ++ [row], (k, e), by simp, HE⟩, by simp [intOf]; omega⟩
      · have hfin : (e = 0 ∧ acc.length = N ∧ R = .ok ⟨kind, 0, [], acc, 0, []⟩ k) ∨ (e ≠ 0 ∧ R = .no k e) := by
          rcases HA.out.alt with ⟨h0, h⟩ | ⟨h0, h⟩
          · have h0 : e = 0 := h0
            have hN : acc.length = N := by omega
            refine .inl ⟨h0, hN, ?_⟩
            have h : (rowsR L N hb (N - acc.length) acc k).nx F = R := h
            rw [hN, Nat.sub_self] at h
            rw [← h]
            exact HF.out acc k
          · exact .inr ⟨h0, h⟩
        have hte : ((acc.length : Int) < (N : Int) ∧ ¬ (e : Int) = 0) ∨ (¬ (acc.length : Int) < (N : Int) ∧ ¬ (e : Int) = 0) ∨ (¬ (acc.length : Int) < (N : Int) ∧ (e : Int) = 0) := by omega
        obtain ⟨d0, d1, d2, d3, d4, d5⟩ := HA.out.box.box
        obtain ⟨e0, e1, e2, e3, e4, e5⟩ := HA.out.res.box
        have f := HA.out.res.free
        have f0 := f 0
        have f1 := f 1
        have f2 := f 2
        have f3 := f 3
        have f4 := f 4
        have f5 := f 5
        have hz := HA.out.res.lt
        have HFN := Lib.hid hfin
        clear f hfin hgo NB WI FL
        rcases hte with ⟨t1, t2⟩ | ⟨t1, t2⟩ | ⟨t1, t2⟩
        all_goals
          go_wp2
          refine bodyPost_ret (v := inV ⟨kind, 0, [], acc, 0, []⟩ (.slice none 0 0) (.slice A acc.length cp) (.slice none 0 0)) (by simp [results, Tryz.results31, go_sem, inV, e0, e1, e2, e3, e4, e5]) rfl ?_
          refine ⟨_, (k, e), _, _, _, _, _, _, _, _, _, _, _, _, rfl, rfl, HA.out.st.set6 (by omega) (by omega), HA.out.kb.set6 (Nat.le_refl _), ?_⟩
          rcases HFN.out with ⟨h0, _, hR⟩ | h
          · exact .inl ⟨h0, _, hR, ins_rowsL (own_set6 HA.out.own (by omega)) (by omega) HA.out.ul (fun i r v a b => Lies.imp ((HA.out.rows i r v a b).held (held_set6 (b := w.heap.size) (fun q hq => by have := hq.1; omega))) (fun q hq => by have := hq.1; omega))⟩
          · exact .inr h
  · have hsq : squareR L kind k0 = .no j er := by
      have e1' : numR L 1 64 22 k0 = .no j er := e1
      unfold squareR
      rw [e1']
      rfl
    have her := numR_err e1
    have her2 : ¬ (er : Int) = 0 := by omega
    have NB1 := fun W hW => NB0 (k0, 0) W hW
    rw [e2] at NB1
    rw [hsq]
    clear e1 e2 hsq h NB0 NB WI FL
    go_enter Tryz.func31, Tryz.ntmps31
    go_wp2_with fail
    with_reducible refine (NB1 _ HS0.out).mono ?_
    rintro r w2 ⟨n, rfl, hn, h2, kb2⟩
    have hrs := HI0.out.1.kb kb2 (by omega)
    have hbx := HI0.out.2.kb kb2 (by omega)
    have HK := Lib.hid (HK0.out.trans kb2)
    have HS := Lib.hid h2
    obtain ⟨c0, c1, c2, _, _⟩ := h2.cells
    have hs1 := h2.size
    simp only at c1 c2
    obtain ⟨d0, d1, d2, d3, d4, d5⟩ := hbx.box
    obtain ⟨e0, e1, e2, e3, e4, e5⟩ := hrs.box
    have f := hrs.free
    have f0 := f 0
    have f1 := f 1
    have f2 := f 2
    have f3 := f 3
    have f4 := f 4
    have f5 := f 5
    have hz := hrs.lt
    have hz2 := hbx.lt
    clear f hrs hbx h2 kb2 hn HI0 HS0 HK0 NB1
    go_wp2
    go_loopw [7] (fun i wr => i = .int .i64 0 ∧ wr = w2) (fun _ _ => 0)
    case atStart => exact ⟨rfl, rfl⟩
    case round =>
      obtain ⟨rfl, rfl⟩ := hrel
      by_cases hn0 : (0 : Int) < n
      all_goals
        go_wp2
        refine bodyPost_ret (v := inV ⟨kind, 0, [], [], 0, []⟩ (.slice none 0 0) (.slice none 0 0) (.slice none 0 0)) (by simp [results, Tryz.results31, go_sem, inV, e0, e1, e2, e3, e4, e5]) rfl ?_
        exact ⟨_, (j, er), _, _, _, _, _, _, _, _, _, _, _, _, rfl, rfl, HS.out.set6 (by omega) (by omega), HK.out.set6 (Nat.le_refl _), .inr ⟨her, rfl⟩⟩
  · exact absurd rfl q0
end Go.Proofs.YtbadingdklenhaaGreatDoor

/-
  What stands in memory while the document's cover reads sets.
-/
namespace Go.Proofs.YtbadingdklenhaaGreatDoor
set_option maxRecDepth 100000
open Go.RowKit

theorem infoDs : (Tryz.prog.info? 72).map (fun i => (i.zero, i.size, i.bytes)) = some (some (.agg #[.int .i64 0, .slice none 0 0]), 2, 32) := by kernel_rfl
/-- What stands while the document's cover reads sets. -/
structure RCv (sb g C : Nat) (L : List Tk) (z : Int) (F : List (Int × List Int) → Nat → Rd In) (R : Rd In) (w : World) (va : Value) (S : List (Int × List Int)) (us : List Value) (q : Nat × Nat) (wr : World) : Prop where
  mk ::
  res : IBlk w.heap.size 36 (.int .i64 0) (.int .i64 0) (.slice none 0 0) (.slice none 0 0) (.int .i64 0) (.slice none 0 0) wr
  box : IBlk (w.heap.size + 1) 36 (.int .i64 3) (.int .i64 0) (.slice none 0 0) (.slice none 0 0) (.int .i64 z) va wr
  own : wr.ownsRow (w.heap.size + 2) 72 2 va S.length (flS S us)
  ul : us.length = S.length
  rows : ∀ (i : Nat) (s : Int × List Int) v, S[i]? = some s → us[i]? = some v → Ints (CvF (w.heap.size + 1) va) wr v s.2
  st : St sb g C L q wr
  kb : Kb sb w wr
  alt : Alt (fun k => (setsG L z S k).nx F) R q
  len : S.length ≤ 4096 ∨ (S.length ≤ 4097 ∧ q.2 ≠ 0)
/-- What stands while a set is read, since the world wo; its variable is the block behind. -/
structure REl (sb g C : Nat) (L : List Tk) (wo : World) (c : Int) (ve : Value) (l : List Int) (q : Nat × Nat) (wr : World) : Prop where
  mk ::
  own : wr.ownsRow (wo.heap.size + 1) 3 1 ve l.length (nl l)
  blk : wr.heap[wo.heap.size]? = some (.cells #[.int .i64 c, ve] 72 (0, 0))
  st : St sb g C L q wr
  kb : Kb sb wo wr
section
variable {sb g C : Nat} {L : List Tk} {z : Int} {F : List (Int × List Int) → Nat → Rd In} {R : Rd In} {w : World} {va : Value} {S : List (Int × List Int)} {us : List Value} {q q' : Nat × Nat} {wr w' w8 wo w1 : World} {c : Int} {ve : Value} {l : List Int}
theorem RCv.kb' (h : RCv sb g C L z F R w va S us q wr) (hs : sb < w.heap.size) (kb : Kb sb wr w') : IBlk w.heap.size 36 (.int .i64 0) (.int .i64 0) (.slice none 0 0) (.slice none 0 0) (.int .i64 0) (.slice none 0 0) w' ∧ IBlk (w.heap.size + 1) 36 (.int .i64 3) (.int .i64 0) (.slice none 0 0) (.slice none 0 0) (.int .i64 z) va w' ∧ w'.ownsRow (w.heap.size + 2) 72 2 va S.length (flS S us) ∧ (∀ (i : Nat) (s : Int × List Int) v, S[i]? = some s → us[i]? = some v → Ints (CvF (w.heap.size + 1) va) w' v s.2) ∧ Kb sb w w' :=
  ⟨h.res.kb kb (by omega), h.box.kb kb (by omega), kb.own (by omega) h.own, fun i s v a b => (h.rows i s v a b).held (kb.held (fun q hq => by have := hq.1; omega)), h.kb.trans kb⟩
theorem RCv.step (h : RCv sb g C L z F R w va S us q wr) (hs0 : sb < w.heap.size) (hg0 : g < w.heap.size) (kb0 : Kb sb wr wo) (hr : REl sb g C L wo c ve l q' w') (hal : Alt (fun k1 => (setsG L z (S ++ [(c, l)]) k1).nx F) R q') (hlen : (S ++ [(c, l)]).length ≤ 4096 ∨ ((S ++ [(c, l)]).length ≤ 4097 ∧ q'.2 ≠ 0))
    {g' cap' : Nat} (ho : w8.ownsRow (w.heap.size + 2) 72 2 (.slice (some ⟨g', 0, none⟩) (S.length + 1) cap') (S.length + 1) (flS S us ++ [.int .i64 c, ve])) (hgr : (w'.alloc (.cells #[.int .i64 c, ve] 72)).grownBy w8 va.ownBlock) (hat : va.ownBlock = some g' ∨ g' = (w'.alloc (.cells #[.int .i64 c, ve] 72)).heap.size) :
    RCv sb g C L z F R w (.slice (some ⟨g', 0, none⟩) (S.length + 1) cap') (S ++ [(c, l)]) (us ++ [ve]) q' (w8.setCell ⟨w.heap.size + 1, 5, none⟩ (.slice (some ⟨g', 0, none⟩) (S.length + 1) cap')) := by
  obtain ⟨r1, b1, o1, rw1, k1⟩ := h.kb' hs0 (kb0.trans hr.kb)
  have hrow : ∀ k, va.ownBlock = some k → w.heap.size + 2 ≤ k := fun k hk => (h.own.lt k hk).1
  have hrowlt : ∀ k, va.ownBlock = some k → k < wr.heap.size := fun k hk => (h.own.lt k hk).2
  have hwo := kb0.size
  have nb := new_below w' (.cells #[.int .i64 c, ve] 72)
  have r2 := r1.next nb
  have b2 := b1.next nb
  have hvr : Ints (CvF (w.heap.size + 1) va) w' ve l := Lies.imp (lies_of_own hr.own) (fun x hx => by
    have h1 := (hr.own.lt x hx).1
    have h2 := h.box.lt
    exact ⟨by omega, fun e => by have := hrowlt x e; omega⟩)
  have up : ∀ {v : Value} {m : List Int}, Ints (CvF (w.heap.size + 1) va) w' v m → Ints (CvF (w.heap.size + 1) (.slice (some ⟨g', 0, none⟩) (S.length + 1) cap')) (w8.setCell ⟨w.heap.size + 1, 5, none⟩ (.slice (some ⟨g', 0, none⟩) (S.length + 1) cap')) v m := fun {v m} x => by
    have x1 : Ints (fun y => CvF (w.heap.size + 1) va y ∧ y < (w'.alloc (.cells #[.int .i64 c, ve] 72)).heap.size) (w'.alloc (.cells #[.int .i64 c, ve] 72)) v m := Lies.lts (x.next nb)
    refine Lies.imp ((x1.held (grown_held hgr (fun b hb => hb.1.2))).held (set_held (a := ⟨w.heap.size + 1, 5, none⟩) (fun y hy => Nat.ne_of_gt hy.1.1))) (fun y hy => ⟨hy.1.1, fun e => ?_⟩)
    have e2 : g' = y := by simpa [Value.ownBlock] using e
    subst e2
    rcases hat with h1 | h1
    · exact hy.1.2 h1
    · have := hy.2; omega
  refine ⟨(r2.keep (hgr.block _ r2.lt (fun e => by have := hrow _ e.symm; omega))).other (a := ⟨w.heap.size + 1, 5, none⟩) (show w.heap.size ≠ w.heap.size + 1 by omega) _, (b2.keep (hgr.block _ b2.lt (fun e => by have := hrow _ e.symm; omega))).set5 _, ?_, by simp [h.ul], fun i s v a b => ?_, ((hr.st.next nb).grown hgr (B := w.heap.size + 2) ⟨by omega, by omega⟩ hrow).other (a := ⟨w.heap.size + 1, 5, none⟩) (show w.heap.size + 1 ≠ sb by omega) (show w.heap.size + 1 ≠ g by omega) _, ((k1.next nb).grown hgr (fun k hk => by have := hrow k hk; omega)).new (a := ⟨w.heap.size + 1, 5, none⟩) (show w.heap.size ≤ w.heap.size + 1 by omega) _, hal, hlen⟩
  · rw [List.length_append, List.length_singleton, flS_append h.ul]
    exact ownsRow_setCell_below (a := ⟨w.heap.size + 1, 5, none⟩) ho (show w.heap.size + 1 < w.heap.size + 2 by omega) _
  · have hul := h.ul
    rcases Nat.lt_or_ge i S.length with hi | hi
    · rw [List.getElem?_append_left hi] at a
      rw [List.getElem?_append_left (by omega)] at b
      exact up (rw1 i s v a b)
    · have hi2 : i = S.length := by
        have := (List.getElem?_eq_some_iff.1 a).1
        simp at this
        omega
      subst hi2
      rw [List.getElem?_append_right (Nat.le_refl _), Nat.sub_self] at a
      rw [← hul, List.getElem?_append_right (Nat.le_refl _), Nat.sub_self] at b
      obtain rfl : (c, l) = s := by simpa using a
      obtain rfl : ve = v := by simpa using b
      exact up hvr
/-- One element more. -/
theorem REl.step {g' cap' k2 : Nat} {n : Int} (h : REl sb g C L wo c ve l (q.1, 0) wr) (hs0 : sb < wo.heap.size) (hg0 : g < wo.heap.size) (hb : Below wr.heap.size wr w1) (hk : k2 < L.length)
    (ho : w8.ownsRow (wo.heap.size + 1) 3 1 (.slice (some ⟨g', 0, none⟩) (l.length + 1) cap') (l.length + 1) (nl l ++ [.int .i64 n])) (hgr : (w1.alloc (.cells #[.int .i64 n] 3)).grownBy w8 ve.ownBlock) :
    REl sb g C L wo c (.slice (some ⟨g', 0, none⟩) (l.length + 1) cap') (l ++ [n]) (k2, 0) ((w8.setCell ⟨wo.heap.size, 1, none⟩ (.slice (some ⟨g', 0, none⟩) (l.length + 1) cap')).setCell ⟨sb, 1, none⟩ (.int .i64 (k2 : Nat))) := by
  have hrow : ∀ k, ve.ownBlock = some k → wo.heap.size + 1 ≤ k := fun k hk => (h.own.lt k hk).1
  have nb := new_below w1 (.cells #[.int .i64 n] 3)
  have hst := ((h.st.next hb).next nb).grown hgr (B := wo.heap.size + 1) ⟨by omega, by omega⟩ hrow
  have hkb := ((h.kb.next hb).next nb).grown hgr (fun k hk => by have := hrow k hk; omega)
  have hbl := lt_of_block h.blk
  have hbk : w8.heap[wo.heap.size]? = some (.cells #[.int .i64 c, ve] 72 (0, 0)) := by
    refine (hgr.block _ (by have := hb.size; simp; omega) (fun e => by have := hrow _ e.symm; omega)).trans ?_
    exact (nb.block _ (by have := hb.size; omega)).trans ((hb.block _ hbl).trans h.blk)
  have hb1 := heap_setCell_same w8 wo.heap.size 1 _ _ (.slice (some ⟨g', 0, none⟩) (l.length + 1) cap') hbk
  refine ⟨?_, (Below.heap_setCell _ ⟨sb, 1, none⟩ _ _ (show wo.heap.size ≠ sb by omega)).trans hb1, (hst.other (a := ⟨wo.heap.size, 1, none⟩) (show wo.heap.size ≠ sb by omega) (show wo.heap.size ≠ g by omega) _).goes hk, (hkb.new (a := ⟨wo.heap.size, 1, none⟩) (Nat.le_refl _) _).store (a := ⟨sb, 1, none⟩) rfl _⟩
  rw [List.length_append, List.length_singleton, nl_append]
  exact ownsRow_setCell_below (a := ⟨sb, 1, none⟩) (ownsRow_setCell_below (a := ⟨wo.heap.size, 1, none⟩) ho (show wo.heap.size < wo.heap.size + 1 by omega) _) (show sb < wo.heap.size + 1 by omega) _
end
/-- Elements go on as the document asks. -/
theorem elemsG_at {L : List Tk} (hE : EndL L) {z last : Int} {l : List Int} {k : Nat} {x : Tk} (hx : L[k]? = some x) : elemsG L z (last + 1) l k = if x.kind = 1 then (if last < x.n ∧ x.n < z then elemsG L z (x.n + 1) (l ++ [x.n]) (k + 1) else .no k 4) else .ok l k := by
  rw [elemsG_eq hE z (last + 1) l (List.getElem?_eq_some_iff.1 hx).1]
  have h1 : isN L k = decide (x.kind = 1) := by unfold isN; rw [hx]
  rw [h1]
  by_cases hc : x.kind = 1
  · rw [if_pos (by simp [hc]), if_pos hc]
    by_cases hr : last < x.n ∧ x.n < z
    · have e1 : numR L (last + 1) (z - 1) 4 k = .ok x.n (k + 1) := by unfold numR; rw [hx]; simp only; rw [if_pos hc, if_pos (by omega)]
      rw [e1, if_pos hr]
      rfl
    · have e1 : numR L (last + 1) (z - 1) 4 k = .no k 4 := by unfold numR; rw [hx]; simp only; rw [if_pos hc, if_neg (by omega)]
      rw [e1, if_neg hr]
      rfl
  · rw [if_neg (by simp [hc]), if_neg hc]
end Go.Proofs.YtbadingdklenhaaGreatDoor

/-
  What the document's cover does with tokens.
-/
namespace Go.Proofs.YtbadingdklenhaaGreatDoor
set_option maxRecDepth 100000
open Go.RowKit

theorem REl.drewN {sb g C : Nat} {L : List Tk} {wo : World} {c : Int} {ve : Value} {l : List Int} {q : Nat × Nat} {wr : World} (h : REl sb g C L wo c ve l q wr) (n : Nat) : REl sb g C L wo c ve l q (wr.drewN n) := by
  have nb : Below wr.heap.size wr (wr.drewN n) := below_drewN (Below.refl _ _) n
  exact ⟨own_next h.own nb, (nb.block _ (lt_of_block h.blk)).trans h.blk, h.st.next nb, h.kb.next nb⟩
/-- A set's variable is there, its cost is read. -/
theorem REl.begin {sb g C : Nat} {L : List Tk} {wo w6 : World} {c : Int} {q : Nat × Nat} (hs : sb < wo.heap.size) (hg : g < wo.heap.size) (kb : Kb sb (wo.alloc (.cells #[.int .i64 0, .slice none 0 0] 72)) w6) (h : St sb g C L q w6) : REl sb g C L wo c (.slice none 0 0) [] q (w6.setCell ⟨wo.heap.size, 0, none⟩ (.int .i64 c)) := by
  have hb : w6.heap[wo.heap.size]? = some (.cells #[.int .i64 0, .slice none 0 0] 72 (0, 0)) := (kb.block _ (by simp) (by omega)).trans (heap_alloc_new _ _)
  exact ⟨World.ownsRow_nil _ _ _ _, heap_setCell_same w6 _ 0 _ _ _ hb, h.other (a := ⟨wo.heap.size, 0, none⟩) (show wo.heap.size ≠ sb by omega) (show wo.heap.size ≠ g by omega) _, ((Kb.of (new_below wo _)).trans kb).new (a := ⟨wo.heap.size, 0, none⟩) (Nat.le_refl _) _⟩
theorem REl.cells {sb g C : Nat} {L : List Tk} {wo : World} {c : Int} {ve : Value} {l : List Int} {q : Nat × Nat} {wr : World} (h : REl sb g C L wo c ve l q wr) : wr.cell? ⟨wo.heap.size, 0, none⟩ = some (.int .i64 c) ∧ wr.cell? ⟨wo.heap.size, 1, none⟩ = some ve ∧ wr.frozen? ⟨wo.heap.size, 0, none⟩ = false ∧ wr.frozen? ⟨wo.heap.size, 1, none⟩ = false ∧ wo.heap.size < wr.heap.size := by
  have h1 := h.blk
  refine ⟨?_, ?_, frozen_of_row _ _ _ _ _ h1, frozen_of_row _ _ _ _ _ h1, lt_of_block h1⟩ <;> (unfold World.cell?; simp only [h1]; rfl)
theorem REl.kb' {sb g C : Nat} {L : List Tk} {wo w' : World} {c : Int} {ve : Value} {l : List Int} {q q' : Nat × Nat} {wr : World} (h : REl sb g C L wo c ve l q wr) (hs : sb < wo.heap.size) (kb : Kb sb wr w') (h1 : St sb g C L q' w') : REl sb g C L wo c ve l q' w' :=
  ⟨kb.own (by omega) h.own, (kb.block _ (lt_of_block h.blk) (by omega)).trans h.blk, h1, h.kb.trans kb⟩
theorem REl.goes {sb g C : Nat} {L : List Tk} {wo : World} {c : Int} {ve : Value} {l : List Int} {k k' : Nat} {wr : World} (h : REl sb g C L wo c ve l (k, 0) wr) (hs : sb < wo.heap.size) (hk : k' < L.length) : REl sb g C L wo c ve l (k', 0) (wr.setCell ⟨sb, 1, none⟩ (.int .i64 (k' : Nat))) :=
  ⟨ownsRow_setCell_below (a := ⟨sb, 1, none⟩) h.own (show sb < wo.heap.size + 1 by omega) _, (Below.heap_setCell _ ⟨sb, 1, none⟩ _ _ (show wo.heap.size ≠ sb by omega)).trans h.blk, h.st.goes hk, h.kb.store (a := ⟨sb, 1, none⟩) rfl _⟩
set_option maxHeartbeats 8000000 in
theorem rcover_any (sb g C : Nat) (L : List Tk) (hE : EndL L) (hLn : L.length ≤ 2000000) (k0 : Nat) (w : World) (h : St sb g C L (k0, 0) w) :
    Calls Tryz.prog 32 #[.pointer (some ⟨sb, 0, none⟩)] w (RIs sb g C L (coverR L k0) w) := by
  have HLn := Lib.hid hLn
  clear hLn
  have NB := fun lo hi q W hW => rnumber_any sb g C L hE q lo hi W hW
  have WI := fun q W hW => rword_any sb g C L hE q ⟨#[115, 101, 116]⟩ setW rfl W hW
  have IS := fun q W hW => ris_any sb g C L q ⟨#[115, 101, 116]⟩ setW rfl W hW
  have FL := fun e ei he q W hW => rfail_any sb g C L q e ei he W hW
  obtain ⟨i0, hi0, hz01, hz02, hz03⟩ := info_parts infoDs
  obtain ⟨j0, hj0, hy01, hy02, hy03⟩ := info_parts infoI
  have hs0 := h.size
  have hg0 := h.toks.1
  have HI0 := Lib.hid (And.intro ((iblk_new w (.int .i64 0) (.int .i64 0) (.slice none 0 0) (.slice none 0 0) (.int .i64 0) (.slice none 0 0) 36).next (new_below _ (.cells #[.int .i64 3, .int .i64 0, .slice none 0 0, .slice none 0 0, .int .i64 0, .slice none 0 0] 36)))
    (by have := iblk_new (w.alloc (.cells #[.int .i64 0, .int .i64 0, .slice none 0 0, .slice none 0 0, .int .i64 0, .slice none 0 0] 36)) (.int .i64 3) (.int .i64 0) (.slice none 0 0) (.slice none 0 0) (.int .i64 0) (.slice none 0 0) 36; rw [World.size_alloc] at this; exact this))
  have HS0 := Lib.hid ((h.next (new_below _ (.cells #[.int .i64 0, .int .i64 0, .slice none 0 0, .slice none 0 0, .int .i64 0, .slice none 0 0] 36))).next (new_below _ (.cells #[.int .i64 3, .int .i64 0, .slice none 0 0, .slice none 0 0, .int .i64 0, .slice none 0 0] 36)))
  have HK0 := Lib.hid (((Kb.refl sb w).alloc (.cells #[.int .i64 0, .int .i64 0, .slice none 0 0, .slice none 0 0, .int .i64 0, .slice none 0 0] 36)).alloc (.cells #[.int .i64 3, .int .i64 0, .slice none 0 0, .slice none 0 0, .int .i64 0, .slice none 0 0] 36))
  have hNB1 := NB 0 4096 (k0, 0) _ HS0.out
  obtain ⟨q0, hq0⟩ : ∃ q, nN L 0 4096 (k0, 0) = q := ⟨_, rfl⟩
  rw [hq0] at hNB1
  obtain ⟨R, hR⟩ : ∃ R, coverR L k0 = R := ⟨_, rfl⟩
  rw [hR]
  have hF : ∀ z l j, (fun (z : Int) (S : List (Int × List Int)) (k2 : Nat) => Rd.ok (⟨3, 0, [], [], z, S⟩ : In) k2) z l j = .ok ⟨3, 0, [], [], z, l⟩ j := fun _ _ _ => rfl
  obtain ⟨F, hFe⟩ : ∃ F, (fun (z : Int) (S : List (Int × List Int)) (k2 : Nat) => Rd.ok (⟨3, 0, [], [], z, S⟩ : In) k2) = F := ⟨_, rfl⟩
  have hcv : coverR L k0 = (numR L 0 4096 22 k0).nx fun z k1 => (setsG L z [] k1).nx (F z) := by rw [← hFe]; rfl
  rw [hFe] at hF
  have HF := Lib.hid hF
  -- the size, or it fails
  have hbeg : ∀ z, (∀ m k', (0 : Nat) = 0 → numR L 0 4096 22 k0 = .ok m k' → z = m) → Alt (fun k => (setsG L z [] k).nx (F z)) R q0 ∧ (q0.2 = 0 → 0 ≤ z ∧ z ≤ 4096) := fun z hz => by
    have ha0 : Alt (fun k => (numR L 0 4096 22 k).nx fun m k' => (setsG L m [] k').nx (F m)) R (k0, 0) := .inl ⟨rfl, by rw [← hR, hcv]⟩
    have ha1 := ha0.num hz
    rw [hq0] at ha1
    refine ⟨ha1, fun h0 => ?_⟩
    rcases nN_ok (L := L) (lo := 0) (hi := 4096) (q := (k0, 0)) with ⟨_, m, k, e1, e2⟩ | ⟨_, j, er, e1, e2⟩ | ⟨z0, _⟩
    · obtain ⟨_, _, _, _, v1, v2, _⟩ := numR_ok e1
      rw [hz m k rfl e1]
      exact ⟨v1, v2⟩
    · rw [hq0] at e2
      rw [e2] at h0
      exact absurd h0 (numR_err e1)
    · exact absurd rfl z0
  have HBEG := Lib.hid hbeg
  clear hbeg hcv hF hFe hR hq0 h
  go_enter Tryz.func32, Tryz.ntmps32
  go_wp2_with fail
  with_reducible refine hNB1.mono ?_
  rintro r w2 ⟨z, rfl, hz, h2, kb2⟩
  have hbg := HBEG.out z (fun m k' _ hm => by first | exact hz m k' trivial hm | exact hz m k' rfl hm)
  have hb2 := HI0.out.2.kb kb2 (by omega)
  have hres := HI0.out.1.kb kb2 (by omega)
  obtain ⟨b0, b1, b2, b3, b4, b5⟩ := hb2.box
  have f4 := hb2.free 4
  have hRC : RCv sb g C L z (F z) R w (.slice none 0 0) [] [] q0 (w2.setCell ⟨w.heap.size + 1, 4, none⟩ (.int .i64 z)) :=
    ⟨hres.other (a := ⟨w.heap.size + 1, 4, none⟩) (show w.heap.size ≠ w.heap.size + 1 by omega) _, heap_setCell_same w2 (w.heap.size + 1) 4 _ _ _ hb2, World.ownsRow_nil _ _ _ _, rfl, fun i s v a => by simp at a, h2.other (a := ⟨w.heap.size + 1, 4, none⟩) (show w.heap.size + 1 ≠ sb by omega) (show w.heap.size + 1 ≠ g by omega) _, (HK0.out.trans kb2).new (a := ⟨w.heap.size + 1, 4, none⟩) (show w.heap.size ≤ w.heap.size + 1 by omega) _, hbg.1, .inl (by simp)⟩
  have HRC := Lib.hid hRC
  have HZ := Lib.hid hbg.2
  clear hb2 hres hRC h2 kb2 hz HI0 HS0 HK0 hbg HBEG hNB1
  go_wp2
  go_loopw [5, 6, 7, 8] (fun _ _ _ _ wr => ∃ (va : Value) (S : List (Int × List Int)) (us : List Value) (q : Nat × Nat), Hid (RCv sb g C L z (F z) R w va S us q wr) ∧ Hid (q.2 = 0 → 0 ≤ z ∧ z ≤ 4096)) (fun _ _ _ _ wr => leftD sb L.length wr)
  case atStart => exact ⟨_, [], [], _, HRC, HZ⟩
  case round =>
    obtain ⟨va, S, us, q, hA, hZq⟩ := hrel
    have HA := Lib.hid hA.out
    have HZ1 := Lib.hid hZq.out
    clear hA HRC HZ hZq
    obtain ⟨A, cp, rfl⟩ := own_sliceP HA.out.own
    obtain ⟨k, e⟩ := q
    obtain ⟨c0, c1, c2, _, _⟩ := HA.out.st.cells
    have hs1 := HA.out.st.size
    simp only at c1 c2
    have hklt : k < L.length := HA.out.st.lt
    have HL := Lib.hid HA.out.st.left
    by_cases h0 : e = 0
    · subst h0
      have IS1 := IS (k, 0) wr HA.out.st
      simp only at IS1
      obtain ⟨hz1, hz2⟩ := HZ1.out rfl
      have halt : (setsG L z S k).nx (F z) = R := by
        rcases HA.out.alt with ⟨_, h⟩ | ⟨h, _⟩
        · exact h
        · exact absurd rfl h
      have hlen : S.length ≤ 4096 := by
        rcases HA.out.len with h | ⟨_, h⟩
        · exact h
        · exact absurd rfl h
      rw [setsG_eq hE z S hklt] at halt
      cases hw : isW L setW k with
      | false =>
        rw [hw] at IS1 halt
        have HRR := Lib.hid (show Rd.ok (⟨3, 0, [], [], z, S⟩ : In) k = R from (HF.out z S k).symm.trans halt)
        clear halt WI NB FL
        go_wp2_with fail
        with_reducible refine IS1.mono ?_
        rintro r w3 ⟨rfl, b3⟩
        have hbx := HA.out.box.next b3
        have hrs := HA.out.res.next b3
        obtain ⟨d0, d1, d2, d3, d4, d5⟩ := hbx.box
        obtain ⟨e0, e1, e2, e3, e4, e5⟩ := hrs.box
        have f := hrs.free
        have f0 := f 0
        have f1 := f 1
        have f2 := f 2
        have f3 := f 3
        have f4 := f 4
        have f5 := f 5
        have HO := Lib.hid (own_next HA.out.own b3)
        have HS := Lib.hid (HA.out.st.next b3)
        have HK := Lib.hid (HA.out.kb.next b3)
        have HW := Lib.hid (fun i s v a b => (HA.out.rows i s v a b).next b3)
        clear f hbx hrs b3 IS1 c0 c1 c2
        go_wp2
        refine bodyPost_ret (v := inV ⟨3, 0, [], [], z, S⟩ (.slice none 0 0) (.slice none 0 0) (.slice A S.length cp)) (by simp [results, Tryz.results32, go_sem, inV, e0, e1, e2, e3, e4, e5]) rfl ?_
        exact ⟨_, (k, 0), _, _, _, _, _, _, _, _, _, _, _, _, rfl, rfl, HS.out.set6 (by omega) (by omega), HK.out.set6 (Nat.le_refl _), .inl ⟨rfl, _, HRR.out.symm, ins_sets (own_set6 HO.out (by omega)) (by omega) HA.out.ul (fun i s v a b => Lies.imp ((HW.out i s v a b).held (held_set6 (b := w.heap.size) (fun q hq => by have := hq.1; omega))) (fun q hq => by have := hq.1; omega))⟩⟩
      | true =>
        rw [hw] at IS1 halt
        simp only [if_true] at halt
        have hs5 : sb < wr.heap.size := hs1
        by_cases h46 : S.length = 4096
        · have hge : (4096 : Int) ≤ (S.length : Int) := by omega
          have FL1 := FL 22 22 rfl (k, 0)
          rw [show nF 22 (k, 0) = (k, 22) from rfl] at FL1
          have WI1 := WI (k, 22)
          rw [nW_snd (show ((k, 22) : Nat × Nat).2 ≠ 0 by show (22 : Nat) ≠ 0; omega)] at WI1
          have NB1 := NB 0 2147483648 (k, 22)
          rw [nN_snd (show ((k, 22) : Nat × Nat).2 ≠ 0 by show (22 : Nat) ≠ 0; omega)] at NB1
          rw [if_pos h46] at halt
          have HRR := Lib.hid (show R = .no k 22 from halt.symm)
          clear halt WI NB FL IS h46
          go_wp2_with fail
          with_reducible refine IS1.mono ?_
          rintro r w3 ⟨rfl, b3⟩
          obtain ⟨d0, d1, d2, d3, d4, d5⟩ := (HA.out.box.next b3).box
          go_wp2_with fail
          with_reducible refine (FL1 _ (HA.out.st.next b3)).mono ?_
          rintro r w4 ⟨rfl, h4, kb4⟩
          go_wp2_with fail
          with_reducible refine (WI1 _ h4).mono ?_
          rintro r w5 ⟨rfl, h5, kb5⟩
          have HKo := Lib.hid (((Kb.of (r := sb) b3).trans kb4).trans kb5)
          have hso := h5.size
          have hgo := h5.toks.1
          clear d0 d1 d2 d3 d4 d5 b3 kb4 kb5 h4 IS1 FL1 WI1 c0 c1 c2
          go_wp2_with fail
          with_reducible refine (NB1 _ (h5.next (new_below _ _))).mono ?_
          rintro r w6 ⟨c, rfl, _, h6, kb6⟩
          have hblk : w6.heap[w5.heap.size]? = some (.cells #[.int .i64 0, .slice none 0 0] 72 (0, 0)) := (kb6.block _ (by simp) (by omega)).trans (heap_alloc_new _ _)
          have y0 : w6.cell? ⟨w5.heap.size, 0, none⟩ = some (.int .i64 0) := by unfold World.cell?; simp only [hblk]; rfl
          have g0 : w6.frozen? ⟨w5.heap.size, 0, none⟩ = false := frozen_of_row w6 _ _ _ _ hblk
          have HEl := Lib.hid (REl.begin (c := c) hso hgo kb6 h6)
          obtain ⟨W6, hW6⟩ : ∃ W6, W6 = w6.setCell ⟨w5.heap.size, 0, none⟩ (.int .i64 c) := ⟨_, rfl⟩
          have hE6 : REl sb g C L w5 c (.slice none 0 0) [] (k, 22) W6 := by rw [hW6]; exact HEl.out
          have HW6 := Lib.hid hW6
          clear hW6 HEl h6 kb6 h5 hblk NB1
          go_wp2
          rw [← HW6.out]
          clear HW6
          obtain ⟨s0, s1, g1, g2, hsl⟩ := hE6.cells
          obtain ⟨t0, t1, t2, g3, g4⟩ := hE6.st.cells
          have hss := hE6.st.size
          simp only at t1 t2
          go_quiet (fail)
          generalize hW7 : W6.drewN _ = W7
          have hE9 : REl sb g C L w5 c (.slice none 0 0) [] (k, 22) W7 := by rw [← hW7]; exact hE6.drewN _
          clear hW7 s0 s1 g1 g2 hsl t0 t1 t2 g3 g4 hss hE6
          obtain ⟨t0, t1, t2, g3, g4⟩ := hE9.st.cells
          have hss := hE9.st.size
          simp only at t1 t2
          go_wp2
          have HFN := Lib.hid (show Alt (fun k1 => (setsG L z (S ++ [(c, [])]) k1).nx (F z)) R (k, 22) from .inr ⟨(show ((k, 22) : Nat × Nat).2 ≠ 0 by show (22 : Nat) ≠ 0; omega), HRR.out⟩)
          have HLE := Lib.hid (show (S ++ [(c, ([] : List Int))]).length ≤ 4096 ∨ ((S ++ [(c, ([] : List Int))]).length ≤ 4097 ∧ ((k, 22) : Nat × Nat).2 ≠ 0) from .inr ⟨by simp; omega, (show ((k, 22) : Nat × Nat).2 ≠ 0 by show (22 : Nat) ≠ 0; omega)⟩)
          go_loopw [7, 8] (fun last _ wi => last = .int .i64 (-1) ∧ Hid (REl sb g C L w5 c (.slice none 0 0) [] (k, 22) wi)) (fun _ _ _ => 0)
          case atStart => exact ⟨rfl, hE9⟩
          case round =>
            obtain ⟨rfl, hEl⟩ := hrel
            have HE1 := Lib.hid hEl.out
            clear hEl hE9
            obtain ⟨s0, s1, g1, g2, hsl⟩ := HE1.out.cells
            obtain ⟨t0, t1, t2, g3, g4⟩ := HE1.out.st.cells
            have hss := HE1.out.st.size
            simp only at t1 t2
            go_wp2_with fail
            go_quiet (fail)
            generalize hW9 : wr.drewN _ = W9
            have hE9 : REl sb g C L w5 c (.slice none 0 0) [] (k, 22) W9 := by rw [← hW9]; exact HE1.out.drewN _
            clear hW9 s0 s1 g1 g2 hsl t0 t1 t2 g3 g4 hss HE1
            obtain ⟨s0, s1, g1, g2, hsl⟩ := hE9.cells
            obtain ⟨hrs, hbx, hown, hrw, hkb⟩ := HA.out.kb' hs0 (HKo.out.trans hE9.kb)
            have HX := Lib.hid (fun g' cap' w8 a b d => HA.out.step (q' := (k, 22)) (g' := g') (cap' := cap') (w8 := w8) hs0 hg0 HKo.out hE9 HFN.out HLE.out a b d)
            have HOW := Lib.hid (hown.alloc (.cells #[.int .i64 c, .slice none 0 0] 72))
            obtain ⟨d0, d1, d2, d3, d4, d5⟩ := hbx.box
            have hblt := hbx.lt
            have HBX := Lib.hid hbx
            clear hrs hbx hown hrw hkb
            go_wp2_with (at_builtin; refine wpList_append_lies _ rfl _ _ 34 rfl (w.heap.size + 2) 72 i0 (.agg #[.int .i64 0, .slice none 0 0]) 2 32 Tryz.underlying34 hi0 hz01 hz02 hz03 rfl (by decide) _ _ _ rfl HOW.out ⟨W9.heap.size, 0, none⟩ 1 1 [.int .i64 c, .slice none 0 0] rfl rfl (World.news_of_block (heap_alloc_new _ _)) (set_oneP _ _ _ _) (by omega) (by unfold maxLen; omega) (by omega) (by simp; omega) _ rfl ?_)
            intro g' cap' w8 hown' hgrow hat hlt8
            have HE := Lib.hid (HX.out _ _ _ hown' hgrow (by rw [World.size_alloc]; exact hat))
            have hbk := (HBX.out.next (new_below _ (.cells #[.int .i64 c, .slice none 0 0] 72))).keep (hgrow.block (w.heap.size + 1) (by simp; omega) (fun e => by have := (HOW.out.lt _ e.symm).1; omega))
            have ow := hbk.box.c5
            have fw := hbk.free 5
            clear hbk hown' hgrow hat HX HOW HBX d0 d1 d2 d3 d4 d5
            go_wp2
            exact ⟨⟨_, _, _, (k, 22), HE, fun q0 => absurd q0 (show ((k, 22) : Nat × Nat).2 ≠ 0 by show (22 : Nat) ≠ 0; omega)⟩, by rw [HE.out.st.left, HL.out, if_neg (show ((k, 22) : Nat × Nat).2 ≠ 0 by show (22 : Nat) ≠ 0; omega)]; simp; omega⟩
        · have hlt46 : S.length < 4096 := by omega
          have hge : ¬ (4096 : Int) ≤ (S.length : Int) := by omega
          have WI1 := WI (k, 0)
          rw [show nW L setW (k, 0) = (k + 1, 0) by unfold nW; rw [if_pos rfl]; exact if_pos hw] at WI1
          have NB1 := NB 0 2147483648 (k + 1, 0)
          have hk1l := isW_goes hE hw
          rw [if_neg h46] at halt
          rcases nN_ok (L := L) (lo := 0) (hi := 2147483648) (q := (k + 1, 0)) with ⟨_, cc, k2, z1, z2⟩ | ⟨_, j, er, z1, z2⟩ | ⟨zz, _⟩
          · have z1 : numR L 0 2147483648 22 (k + 1) = .ok cc k2 := z1
            obtain ⟨_, _, _, _, _, _, hk2⟩ := numR_ok z1
            have hk2l : k2 < L.length := by
              have := numR_fit hE (lo := 0) (hi := 2147483648) (e := 22) hk1l (.inr rfl)
              rw [z1] at this
              exact this.2
            rw [z1] at halt
            rw [z2] at NB1
            have HZ2 := Lib.hid z1
            obtain ⟨x, hx⟩ : ∃ x, L[k2]? = some x := ⟨_, List.getElem?_eq_getElem hk2l⟩
            obtain ⟨kd, hkd⟩ : ∃ kd : Int, ((x.kind : Nat) : Int) = kd := ⟨_, rfl⟩
            have HX0 := Lib.hid hx
            have HKD := Lib.hid hkd
            by_cases hc2 : x.kind = 2
            · have hg3 := hE.goes hx (by omega)
              have htk : tokR L 2 k2 = .ok x (k2 + 1) := by unfold tokR; rw [hx]; exact if_pos hc2
              have halt : ((tokR L 2 k2).nx fun _ k3 => (elemsG L z 0 [] k3).nx fun l k4 => setsG L z (S ++ [(cc, l)]) k4).nx (F z) = R := halt
              rw [htk] at halt
              have halt : ((elemsG L z 0 [] (k2 + 1)).nx fun l k4 => setsG L z (S ++ [(cc, l)]) k4).nx (F z) = R := halt
              rw [nx_assoc] at halt
              have HRR := Lib.hid halt
              have hkn : kd = 2 := by omega
              have hk21 : k + 1 ≤ k2 := by omega
              have FL4 := fun q => FL 4 4 rfl q
              clear halt WI NB FL IS h46 z1 z2 htk hc2 hx hkd hk2 hw hk1l
              subst hkn
              go_wp2_with fail
              with_reducible refine IS1.mono ?_
              rintro r w3 ⟨rfl, b3⟩
              obtain ⟨d0, d1, d2, d3, d4, d5⟩ := (HA.out.box.next b3).box
              go_wp2_with fail
              with_reducible refine (WI1 _ (HA.out.st.next b3)).mono ?_
              rintro r w5 ⟨rfl, h5, kb5⟩
              have HKo := Lib.hid ((Kb.of (r := sb) b3).trans kb5)
              have hso := h5.size
              have hgo := h5.toks.1
              clear d0 d1 d2 d3 d4 d5 b3 kb5 IS1 WI1 c0 c1 c2
              go_wp2_with fail
              with_reducible refine (NB1 _ (h5.next (new_below _ _))).mono ?_
              rintro r w6 ⟨c, rfl, hc, h6, kb6⟩
              have hblk : w6.heap[w5.heap.size]? = some (.cells #[.int .i64 0, .slice none 0 0] 72 (0, 0)) := (kb6.block _ (by simp) (by omega)).trans (heap_alloc_new _ _)
              have y0 : w6.cell? ⟨w5.heap.size, 0, none⟩ = some (.int .i64 0) := by unfold World.cell?; simp only [hblk]; rfl
              have g0 : w6.frozen? ⟨w5.heap.size, 0, none⟩ = false := frozen_of_row w6 _ _ _ _ hblk
              have HEl := Lib.hid (REl.begin (c := c) hso hgo kb6 h6)
              obtain rfl : c = cc := hc _ _ (by first | rfl | trivial) HZ2.out
              obtain ⟨W6, hW6⟩ : ∃ W6, W6 = w6.setCell ⟨w5.heap.size, 0, none⟩ (.int .i64 c) := ⟨_, rfl⟩
              have hE6 : REl sb g C L w5 c (.slice none 0 0) [] (k2, 0) W6 := by rw [hW6]; exact HEl.out
              have HW6 := Lib.hid hW6
              clear hW6 HEl h6 kb6 h5 hblk NB1 hc
              go_wp2
              rw [← HW6.out]
              clear HW6
              obtain ⟨s0, s1, g1, g2, hsl⟩ := hE6.cells
              obtain ⟨t0, t1, t2, g3, g4⟩ := hE6.st.cells
              have hss := hE6.st.size
              simp only at t1 t2
              obtain ⟨v0, _, _, _, _⟩ := hE6.st.toks.get HX0.out
              rw [HKD.out] at v0
              have i1 : (0 : Int) ≤ (k2 : Int) := by omega
              have i2 : (k2 : Int) < (L.length : Int) := by omega
              have hgl := hE6.st.toks.1
              go_quiet (fail)
              generalize hW7 : W6.drewN _ = W7
              have hE7 : REl sb g C L w5 c (.slice none 0 0) [] (k2, 0) W7 := by rw [← hW7]; exact hE6.drewN _
              clear hW7 s0 s1 g1 g2 hsl t0 t1 t2 g3 g4 hss hE6 v0 y0 g0
              obtain ⟨t0, t1, t2, g3, g4⟩ := hE7.st.cells
              have hss := hE7.st.size
              simp only at t1 t2
              have ik : (k2 : Int) + 1 ≤ 9223372036854775807 := by have := HLn.out; omega
              have HE8 := Lib.hid (hE7.goes (k' := k2 + 1) hso hg3)
              have HRR0 := Lib.hid (show (elemsG L z (-1 + 1) [] (k2 + 1)).nx (fun l k4 => (setsG L z (S ++ [(c, l)]) k4).nx (F z)) = R from HRR.out)
              clear hE7 HRR
              go_wp2
              go_loopw [7, 8] (fun last _ wi => ∃ (m : Int) (ve : Value) (l : List Int) (kk : Nat), last = .int .i64 m ∧ l.length ≤ kk ∧ k + 1 ≤ kk ∧ -1 ≤ m ∧ Hid (REl sb g C L w5 c ve l (kk, 0) wi) ∧ Hid ((elemsG L z (m + 1) l kk).nx (fun l k4 => (setsG L z (S ++ [(c, l)]) k4).nx (F z)) = R)) (fun _ _ wi => leftD sb L.length wi)
              case atStart => exact ⟨-1, _, [], k2 + 1, rfl, by simp, by omega, by omega, HE8, HRR0⟩
              case round =>
                obtain ⟨m, ve, l, kk, rfl, hlk, hkk, hm1, hEl, hQ⟩ := hrel
                have HE1 := Lib.hid hEl.out
                have HQ1 := hQ.out
                clear hEl hQ HE8 HRR0 t0 t1 t2 g3 g4 hss
                obtain ⟨A', cp', rfl⟩ := own_sliceP HE1.out.own
                have hkl : kk < L.length := HE1.out.st.lt
                obtain ⟨y, hy⟩ : ∃ y, L[kk]? = some y := ⟨_, List.getElem?_eq_getElem hkl⟩
                rw [elemsG_at hE hy] at HQ1
                obtain ⟨ye, hye⟩ : ∃ ye : Int, ((y.kind : Nat) : Int) = ye := ⟨_, rfl⟩
                obtain ⟨s0, s1, g1, g2, hsl⟩ := HE1.out.cells
                obtain ⟨t0, t1, t2, g3, g4⟩ := HE1.out.st.cells
                have hss := HE1.out.st.size
                simp only at t1 t2
                obtain ⟨v0, _, v2, _, _⟩ := HE1.out.st.toks.get hy
                rw [hye] at v0
                have i1 : (0 : Int) ≤ (kk : Int) := by omega
                have i2 : (kk : Int) < (L.length : Int) := by omega
                have hgl := HE1.out.st.toks.1
                have hal : (l.length : Int) ≤ 2000000 := by have := HLn.out; omega
                have HIL := Lib.hid HE1.out.st.left
                have HY := Lib.hid hy
                have HYE := Lib.hid hye
                by_cases hc1 : y.kind = 1
                · rw [if_pos hc1] at HQ1
                  have hy1 : ye = 1 := by omega
                  by_cases hr : m < y.n ∧ y.n < z
                  · rw [if_pos hr] at HQ1
                    have HQ2 := Lib.hid HQ1
                    have hg9 := hE.goes hy (by omega)
                    obtain ⟨r1, r2⟩ := hr
                    have r3 : ¬ y.n ≤ m := by omega
                    have r4 : ¬ z ≤ y.n := by omega
                    clear HQ1 hc1 hye hy
                    subst hy1
                    go_wp2_with fail
                    go_quiet (fail)
                    generalize hW8 : wr.drewN _ = W8
                    have hE8 : REl sb g C L w5 c (.slice A' l.length cp') l (kk, 0) W8 := by rw [← hW8]; exact HE1.out.drewN _
                    clear hW8 s0 s1 g1 g2 hsl t0 t1 t2 g3 g4 hss v0 v2 HE1
                    obtain ⟨t0, t1, t2, g3, g4⟩ := hE8.st.cells
                    have hss := hE8.st.size
                    simp only at t1 t2
                    obtain ⟨v0, _, v2, _, _⟩ := hE8.st.toks.get HY.out
                    rw [HYE.out] at v0
                    have hgl8 := hE8.st.toks.1
                    go_wp2_with fail
                    go_quiet (fail)
                    generalize hW9 : W8.drewN _ = W9
                    have hE9 : REl sb g C L w5 c (.slice A' l.length cp') l (kk, 0) W9 := by rw [← hW9]; exact hE8.drewN _
                    clear hW9 t0 t1 t2 g3 g4 hss v0 v2 hE8
                    obtain ⟨s0, s1, g1, g2, hsl⟩ := hE9.cells
                    have HOW := Lib.hid (hE9.own.alloc (.cells #[.int .i64 y.n] 3))
                    have HE9 := Lib.hid hE9
                    clear hE9
                    iterate 29 (first | go_step | go_guarded)
                    have d1 : decide (y.n ≤ m) = false := by simp; omega
                    have d2 : decide (z ≤ y.n) = false := by simp; omega
                    simp only [d1, d2, Bool.or_self]
                    clear d1 d2
                    go_wp2_with (at_builtin; go_loud (refine wpList_append_lies _ rfl _ _ 65 rfl (w5.heap.size + 1) 3 j0 (.int .i64 0) 1 8 Tryz.underlying65 hj0 hy01 hy02 hy03 rfl (by decide) _ _ _ rfl HOW.out ⟨W9.heap.size, 0, none⟩ 1 1 [.int .i64 y.n] rfl rfl (World.news_of_block (heap_alloc_new _ _)) (one_int _) ?c1 ?c2 ?c3 ?c4 _ rfl ?_))
                    case c1 => omega
                    case c2 => unfold maxLen; omega
                    case c3 => omega
                    case c4 => simp; omega
                    intro g' cap' w11 hown' hgrow hat hlt8
                    have HE := Lib.hid (REl.step (q := (kk, 0)) (k2 := kk + 1) HE9.out hso hgo (Below.refl _ _) hg9 hown' hgrow)
                    rw [show ((kk + 1 : Nat) : Int) = (kk : Int) + 1 from by omega] at HE
                    have hrow : ∀ q, (Value.slice A' l.length cp').ownBlock = some q → w5.heap.size + 1 ≤ q := fun q hq => (HE9.out.own.lt q hq).1
                    have nb := new_below W9 (.cells #[.int .i64 y.n] 3)
                    have st11 := (HE9.out.st.next nb).grown hgrow (B := w5.heap.size + 1) ⟨by omega, by omega⟩ hrow
                    have blk11 : w11.heap[w5.heap.size]? = some (.cells #[.int .i64 c, .slice A' l.length cp'] 72 (0, 0)) := (hgrow.block _ (by simp; omega) (fun e => by have := hrow _ e.symm; omega)).trans ((nb.block _ hsl).trans HE9.out.blk)
                    obtain ⟨t0, t1, t2, g3, g4⟩ := st11.cells
                    have hss := st11.size
                    simp only at t1 t2
                    have ow : w11.cell? ⟨w5.heap.size, 1, none⟩ = some (.slice A' l.length cp') := by unfold World.cell?; simp only [blk11]; rfl
                    have fw : w11.frozen? ⟨w5.heap.size, 1, none⟩ = false := frozen_of_row w11 _ _ _ _ blk11
                    have hsl11 := lt_of_block blk11
                    have ik2 : (kk : Int) + 1 ≤ 9223372036854775807 := by have := HLn.out; omega
                    have hnsb : ¬ sb = w5.heap.size := by omega
                    clear hown' hgrow hat HOW hrow nb st11 blk11 s0 s1 g1 g2 hsl HE9
                    go_wp2
                    exact ⟨⟨y.n, _, l ++ [y.n], kk + 1, rfl, by simp; omega, by omega, by omega, HE, HQ2⟩, by have h9 := HE.out.st.lt; rw [HE.out.st.left, HIL.out]; simp only [if_true]; omega⟩
                  · rw [if_neg hr] at HQ1
                    have HFN := Lib.hid (show Alt (fun k1 => (setsG L z (S ++ [(c, l)]) k1).nx (F z)) R (kk, 4) from .inr ⟨by show (4 : Nat) ≠ 0; omega, HQ1.symm⟩)
                    have HLE := Lib.hid (show (S ++ [(c, l)]).length ≤ 4096 ∨ ((S ++ [(c, l)]).length ≤ 4097 ∧ ((kk, 4) : Nat × Nat).2 ≠ 0) from .inl (by simp; omega))
                    have hrr : y.n ≤ m ∨ (¬ y.n ≤ m ∧ z ≤ y.n) := by omega
                    have F4 := FL4 (kk, 0)
                    rw [show nF 4 (kk, 0) = (kk, 4) from rfl] at F4
                    clear HQ1 hc1 hye hy hr FL4
                    subst hy1
                    rcases hrr with r1 | ⟨r1, r2⟩
                    all_goals
                      go_wp2_with fail
                      go_quiet (fail)
                      generalize hW8 : wr.drewN _ = W8
                      have hE8 : REl sb g C L w5 c (.slice A' l.length cp') l (kk, 0) W8 := by rw [← hW8]; exact HE1.out.drewN _
                      clear hW8 s0 s1 g1 g2 hsl t0 t1 t2 g3 g4 hss v0 v2 HE1
                      obtain ⟨t0, t1, t2, g3, g4⟩ := hE8.st.cells
                      have hss := hE8.st.size
                      simp only at t1 t2
                      obtain ⟨v0, _, v2, _, _⟩ := hE8.st.toks.get HY.out
                      rw [HYE.out] at v0
                      have hgl8 := hE8.st.toks.1
                      go_wp2_with fail
                      go_quiet (fail)
                      generalize hW9 : W8.drewN _ = W9
                      have hE9 : REl sb g C L w5 c (.slice A' l.length cp') l (kk, 0) W9 := by rw [← hW9]; exact hE8.drewN _
                      clear hW9 t0 t1 t2 g3 g4 hss v0 v2 hE8
                      go_wp2_with fail
                      with_reducible refine (F4 _ hE9.st).mono ?_
                      rintro r w10 ⟨rfl, h10, kb10⟩
                      have hEa := hE9.kb' hso kb10 h10
                      clear hE9 h10 kb10 F4
                      obtain ⟨s0, s1, g1, g2, hsl⟩ := hEa.cells
                      obtain ⟨hrs, hbx, hown, hrw, hkb⟩ := HA.out.kb' hs0 (HKo.out.trans hEa.kb)
                      have HX := Lib.hid (fun g' cap' w8 a b d => HA.out.step (q' := (kk, 4)) (g' := g') (cap' := cap') (w8 := w8) hs0 hg0 HKo.out hEa HFN.out HLE.out a b d)
                      have HOW := Lib.hid (hown.alloc (.cells #[.int .i64 c, .slice A' l.length cp'] 72))
                      obtain ⟨d0, d1, d2, d3, d4, d5⟩ := hbx.box
                      have hblt := hbx.lt
                      have HBX := Lib.hid hbx
                      clear hrs hbx hown hrw hkb
                      go_wp2_with (at_builtin; refine wpList_append_lies _ rfl _ _ 34 rfl (w.heap.size + 2) 72 i0 (.agg #[.int .i64 0, .slice none 0 0]) 2 32 Tryz.underlying34 hi0 hz01 hz02 hz03 rfl (by decide) _ _ _ rfl HOW.out ⟨w10.heap.size, 0, none⟩ 1 1 [.int .i64 c, .slice A' l.length cp'] rfl rfl (World.news_of_block (heap_alloc_new _ _)) (set_oneP _ _ _ _) (by omega) (by unfold maxLen; omega) (by omega) (by simp; omega) _ rfl ?_)
                      intro g' cap' w11 hown' hgrow hat hlt8
                      have HE := Lib.hid (HX.out _ _ _ hown' hgrow (by rw [World.size_alloc]; exact hat))
                      have hbk := (HBX.out.next (new_below _ (.cells #[.int .i64 c, .slice A' l.length cp'] 72))).keep (hgrow.block (w.heap.size + 1) (by simp; omega) (fun e => by have := (HOW.out.lt _ e.symm).1; omega))
                      have ow := hbk.box.c5
                      have fw := hbk.free 5
                      clear hbk hown' hgrow hat HX HOW HBX d0 d1 d2 d3 d4 d5
                      go_wp2
                      exact ⟨⟨_, _, _, (kk, 4), HE, fun q0 => absurd q0 (show ((kk, 4) : Nat × Nat).2 ≠ 0 by show (4 : Nat) ≠ 0; omega)⟩, by rw [HE.out.st.left, HL.out, if_neg (show ((kk, 4) : Nat × Nat).2 ≠ 0 by show (4 : Nat) ≠ 0; omega)]; simp; omega⟩
                · rw [if_neg hc1] at HQ1
                  have HFN := Lib.hid (show Alt (fun k1 => (setsG L z (S ++ [(c, l)]) k1).nx (F z)) R (kk, 0) from .inl ⟨rfl, HQ1⟩)
                  have HLE := Lib.hid (show (S ++ [(c, l)]).length ≤ 4096 ∨ ((S ++ [(c, l)]).length ≤ 4097 ∧ ((kk, 0) : Nat × Nat).2 ≠ 0) from .inl (by simp; omega))
                  have hy1 : ¬ ye = 1 := by omega
                  have hy2 : (ye == 1) = false := by simp; omega
                  clear HQ1 hc1 hye hy FL4
                  go_wp2_with fail
                  go_quiet (fail)
                  generalize hW8 : wr.drewN _ = W8
                  have hEa : REl sb g C L w5 c (.slice A' l.length cp') l (kk, 0) W8 := by rw [← hW8]; exact HE1.out.drewN _
                  clear hW8 s0 s1 g1 g2 hsl t0 t1 t2 g3 g4 hss v0 v2 HE1
                  obtain ⟨s0, s1, g1, g2, hsl⟩ := hEa.cells
                  obtain ⟨hrs, hbx, hown, hrw, hkb⟩ := HA.out.kb' hs0 (HKo.out.trans hEa.kb)
                  have HX := Lib.hid (fun g' cap' w8 a b d => HA.out.step (q' := (kk, 0)) (g' := g') (cap' := cap') (w8 := w8) hs0 hg0 HKo.out hEa HFN.out HLE.out a b d)
                  have HOW := Lib.hid (hown.alloc (.cells #[.int .i64 c, .slice A' l.length cp'] 72))
                  obtain ⟨d0, d1, d2, d3, d4, d5⟩ := hbx.box
                  have hblt := hbx.lt
                  have HBX := Lib.hid hbx
                  clear hrs hbx hown hrw hkb
                  go_wp2_with (at_builtin; refine wpList_append_lies _ rfl _ _ 34 rfl (w.heap.size + 2) 72 i0 (.agg #[.int .i64 0, .slice none 0 0]) 2 32 Tryz.underlying34 hi0 hz01 hz02 hz03 rfl (by decide) _ _ _ rfl HOW.out ⟨W8.heap.size, 0, none⟩ 1 1 [.int .i64 c, .slice A' l.length cp'] rfl rfl (World.news_of_block (heap_alloc_new _ _)) (set_oneP _ _ _ _) (by omega) (by unfold maxLen; omega) (by omega) (by simp; omega) _ rfl ?_)
                  intro g' cap' w11 hown' hgrow hat hlt8
                  have HE := Lib.hid (HX.out _ _ _ hown' hgrow (by rw [World.size_alloc]; exact hat))
                  have hbk := (HBX.out.next (new_below _ (.cells #[.int .i64 c, .slice A' l.length cp'] 72))).keep (hgrow.block (w.heap.size + 1) (by simp; omega) (fun e => by have := (HOW.out.lt _ e.symm).1; omega))
                  have ow := hbk.box.c5
                  have fw := hbk.free 5
                  clear hbk hown' hgrow hat HX HOW HBX d0 d1 d2 d3 d4 d5
                  go_wp2
                  exact ⟨⟨_, _, _, (kk, 0), HE, fun _ => ⟨hz1, hz2⟩⟩, by have h9 := HE.out.st.lt; rw [HE.out.st.left, HL.out]; simp only [if_true]; simp only at h9; omega⟩
            · have htk : tokR L 2 k2 = .no k2 4 := by unfold tokR; rw [hx]; exact if_neg hc2
              have halt : ((tokR L 2 k2).nx fun _ k3 => (elemsG L z 0 [] k3).nx fun l k4 => setsG L z (S ++ [(cc, l)]) k4).nx (F z) = R := halt
              rw [htk] at halt
              have HRR := Lib.hid (show R = .no k2 4 from halt.symm)
              have hkn : ¬ kd = 2 := by omega
              have FL4 := FL 4 4 rfl (k2, 0)
              rw [show nF 4 (k2, 0) = (k2, 4) from rfl] at FL4
              clear halt WI NB FL IS h46 z1 z2 htk hc2 hx hkd hk2 hw hk1l
              go_wp2_with fail
              with_reducible refine IS1.mono ?_
              rintro r w3 ⟨rfl, b3⟩
              obtain ⟨d0, d1, d2, d3, d4, d5⟩ := (HA.out.box.next b3).box
              go_wp2_with fail
              with_reducible refine (WI1 _ (HA.out.st.next b3)).mono ?_
              rintro r w5 ⟨rfl, h5, kb5⟩
              have HKo := Lib.hid ((Kb.of (r := sb) b3).trans kb5)
              have hso := h5.size
              have hgo := h5.toks.1
              clear d0 d1 d2 d3 d4 d5 b3 kb5 IS1 WI1 c0 c1 c2
              go_wp2_with fail
              with_reducible refine (NB1 _ (h5.next (new_below _ _))).mono ?_
              rintro r w6 ⟨c, rfl, hc, h6, kb6⟩
              have hblk : w6.heap[w5.heap.size]? = some (.cells #[.int .i64 0, .slice none 0 0] 72 (0, 0)) := (kb6.block _ (by simp) (by omega)).trans (heap_alloc_new _ _)
              have y0 : w6.cell? ⟨w5.heap.size, 0, none⟩ = some (.int .i64 0) := by unfold World.cell?; simp only [hblk]; rfl
              have g0 : w6.frozen? ⟨w5.heap.size, 0, none⟩ = false := frozen_of_row w6 _ _ _ _ hblk
              have HEl := Lib.hid (REl.begin (c := c) hso hgo kb6 h6)
              obtain ⟨W6, hW6⟩ : ∃ W6, W6 = w6.setCell ⟨w5.heap.size, 0, none⟩ (.int .i64 c) := ⟨_, rfl⟩
              have hE6 : REl sb g C L w5 c (.slice none 0 0) [] (k2, 0) W6 := by rw [hW6]; exact HEl.out
              have HW6 := Lib.hid hW6
              clear hW6 HEl h6 kb6 h5 hblk NB1 hc
              go_wp2
              rw [← HW6.out]
              clear HW6
              obtain ⟨s0, s1, g1, g2, hsl⟩ := hE6.cells
              obtain ⟨t0, t1, t2, g3, g4⟩ := hE6.st.cells
              have hss := hE6.st.size
              simp only at t1 t2
              obtain ⟨v0, _, _, _, _⟩ := hE6.st.toks.get HX0.out
              rw [HKD.out] at v0
              have i1 : (0 : Int) ≤ (k2 : Int) := by omega
              have i2 : (k2 : Int) < (L.length : Int) := by omega
              have hgl := hE6.st.toks.1
              go_quiet (fail)
              generalize hW7 : W6.drewN _ = W7
              have hE7 : REl sb g C L w5 c (.slice none 0 0) [] (k2, 0) W7 := by rw [← hW7]; exact hE6.drewN _
              clear hW7 s0 s1 g1 g2 hsl t0 t1 t2 g3 g4 hss hE6 v0
              go_wp2_with fail
              with_reducible refine (FL4 _ hE7.st).mono ?_
              rintro r w8 ⟨rfl, h8, kb8⟩
              have hE9 := hE7.kb' hso kb8 h8
              clear hE7 kb8 h8 FL4
              obtain ⟨t0, t1, t2, g3, g4⟩ := hE9.st.cells
              have hss := hE9.st.size
              simp only at t1 t2
              go_wp2
              have HFN := Lib.hid (show Alt (fun k1 => (setsG L z (S ++ [(c, [])]) k1).nx (F z)) R (k2, 4) from .inr ⟨(show ((k2, 4) : Nat × Nat).2 ≠ 0 by show (4 : Nat) ≠ 0; omega), HRR.out⟩)
              have HLE := Lib.hid (show (S ++ [(c, ([] : List Int))]).length ≤ 4096 ∨ ((S ++ [(c, ([] : List Int))]).length ≤ 4097 ∧ ((k2, 4) : Nat × Nat).2 ≠ 0) from .inr ⟨by simp; omega, (show ((k2, 4) : Nat × Nat).2 ≠ 0 by show (4 : Nat) ≠ 0; omega)⟩)
              go_loopw [7, 8] (fun last _ wi => last = .int .i64 (-1) ∧ Hid (REl sb g C L w5 c (.slice none 0 0) [] (k2, 4) wi)) (fun _ _ _ => 0)
              case atStart => exact ⟨rfl, hE9⟩
              case round =>
                obtain ⟨rfl, hEl⟩ := hrel
                have HE1 := Lib.hid hEl.out
                clear hEl hE9
                obtain ⟨s0, s1, g1, g2, hsl⟩ := HE1.out.cells
                obtain ⟨t0, t1, t2, g3, g4⟩ := HE1.out.st.cells
                have hss := HE1.out.st.size
                simp only at t1 t2
                go_wp2_with fail
                go_quiet (fail)
                generalize hW9 : wr.drewN _ = W9
                have hE9 : REl sb g C L w5 c (.slice none 0 0) [] (k2, 4) W9 := by rw [← hW9]; exact HE1.out.drewN _
                clear hW9 s0 s1 g1 g2 hsl t0 t1 t2 g3 g4 hss HE1
                obtain ⟨s0, s1, g1, g2, hsl⟩ := hE9.cells
                obtain ⟨hrs, hbx, hown, hrw, hkb⟩ := HA.out.kb' hs0 (HKo.out.trans hE9.kb)
                have HX := Lib.hid (fun g' cap' w8 a b d => HA.out.step (q' := (k2, 4)) (g' := g') (cap' := cap') (w8 := w8) hs0 hg0 HKo.out hE9 HFN.out HLE.out a b d)
                have HOW := Lib.hid (hown.alloc (.cells #[.int .i64 c, .slice none 0 0] 72))
                obtain ⟨d0, d1, d2, d3, d4, d5⟩ := hbx.box
                have hblt := hbx.lt
                have HBX := Lib.hid hbx
                clear hrs hbx hown hrw hkb
                go_wp2_with (at_builtin; refine wpList_append_lies _ rfl _ _ 34 rfl (w.heap.size + 2) 72 i0 (.agg #[.int .i64 0, .slice none 0 0]) 2 32 Tryz.underlying34 hi0 hz01 hz02 hz03 rfl (by decide) _ _ _ rfl HOW.out ⟨W9.heap.size, 0, none⟩ 1 1 [.int .i64 c, .slice none 0 0] rfl rfl (World.news_of_block (heap_alloc_new _ _)) (set_oneP _ _ _ _) (by omega) (by unfold maxLen; omega) (by omega) (by simp; omega) _ rfl ?_)
                intro g' cap' w8 hown' hgrow hat hlt8
                have HE := Lib.hid (HX.out _ _ _ hown' hgrow (by rw [World.size_alloc]; exact hat))
                have hbk := (HBX.out.next (new_below _ (.cells #[.int .i64 c, .slice none 0 0] 72))).keep (hgrow.block (w.heap.size + 1) (by simp; omega) (fun e => by have := (HOW.out.lt _ e.symm).1; omega))
                have ow := hbk.box.c5
                have fw := hbk.free 5
                clear hbk hown' hgrow hat HX HOW HBX d0 d1 d2 d3 d4 d5
                go_wp2
                exact ⟨⟨_, _, _, (k2, 4), HE, fun q0 => absurd q0 (show ((k2, 4) : Nat × Nat).2 ≠ 0 by show (4 : Nat) ≠ 0; omega)⟩, by rw [HE.out.st.left, HL.out, if_neg (show ((k2, 4) : Nat × Nat).2 ≠ 0 by show (4 : Nat) ≠ 0; omega)]; simp; omega⟩
          · have z1 : numR L 0 2147483648 22 (k + 1) = .no j er := z1
            rw [z1] at halt
            rw [z2] at NB1
            have her := numR_err z1
            have her2 : ¬ (er : Int) = 0 := by omega
            have her3 : ((er : Int) == 0) = false := by simp; omega
            have HRR := Lib.hid (show R = .no j er from halt.symm)
            clear halt WI NB FL IS h46 z1 z2 hw hk1l
            go_wp2_with fail
            with_reducible refine IS1.mono ?_
            rintro r w3 ⟨rfl, b3⟩
            obtain ⟨d0, d1, d2, d3, d4, d5⟩ := (HA.out.box.next b3).box
            go_wp2_with fail
            with_reducible refine (WI1 _ (HA.out.st.next b3)).mono ?_
            rintro r w5 ⟨rfl, h5, kb5⟩
            have HKo := Lib.hid ((Kb.of (r := sb) b3).trans kb5)
            have hso := h5.size
            have hgo := h5.toks.1
            clear d0 d1 d2 d3 d4 d5 b3 kb5 IS1 WI1 c0 c1 c2
            go_wp2_with fail
            with_reducible refine (NB1 _ (h5.next (new_below _ _))).mono ?_
            rintro r w6 ⟨c, rfl, hc, h6, kb6⟩
            have hblk : w6.heap[w5.heap.size]? = some (.cells #[.int .i64 0, .slice none 0 0] 72 (0, 0)) := (kb6.block _ (by simp) (by omega)).trans (heap_alloc_new _ _)
            have y0 : w6.cell? ⟨w5.heap.size, 0, none⟩ = some (.int .i64 0) := by unfold World.cell?; simp only [hblk]; rfl
            have g0 : w6.frozen? ⟨w5.heap.size, 0, none⟩ = false := frozen_of_row w6 _ _ _ _ hblk
            have HEl := Lib.hid (REl.begin (c := c) hso hgo kb6 h6)
            obtain ⟨W6, hW6⟩ : ∃ W6, W6 = w6.setCell ⟨w5.heap.size, 0, none⟩ (.int .i64 c) := ⟨_, rfl⟩
            have hE6 : REl sb g C L w5 c (.slice none 0 0) [] (j, er) W6 := by rw [hW6]; exact HEl.out
            have HW6 := Lib.hid hW6
            clear hW6 HEl h6 kb6 h5 hblk NB1 hc
            go_wp2
            rw [← HW6.out]
            clear HW6
            obtain ⟨s0, s1, g1, g2, hsl⟩ := hE6.cells
            obtain ⟨t0, t1, t2, g3, g4⟩ := hE6.st.cells
            have hss := hE6.st.size
            simp only at t1 t2
            go_quiet (fail)
            generalize hW7 : W6.drewN _ = W7
            have hE9 : REl sb g C L w5 c (.slice none 0 0) [] (j, er) W7 := by rw [← hW7]; exact hE6.drewN _
            clear hW7 s0 s1 g1 g2 hsl t0 t1 t2 g3 g4 hss hE6
            obtain ⟨t0, t1, t2, g3, g4⟩ := hE9.st.cells
            have hss := hE9.st.size
            simp only at t1 t2
            go_wp2
            have HFN := Lib.hid (show Alt (fun k1 => (setsG L z (S ++ [(c, [])]) k1).nx (F z)) R (j, er) from .inr ⟨her, HRR.out⟩)
            have HLE := Lib.hid (show (S ++ [(c, ([] : List Int))]).length ≤ 4096 ∨ ((S ++ [(c, ([] : List Int))]).length ≤ 4097 ∧ ((j, er) : Nat × Nat).2 ≠ 0) from .inr ⟨by simp; omega, her⟩)
            go_loopw [7, 8] (fun last _ wi => last = .int .i64 (-1) ∧ Hid (REl sb g C L w5 c (.slice none 0 0) [] (j, er) wi)) (fun _ _ _ => 0)
            case atStart => exact ⟨rfl, hE9⟩
            case round =>
              obtain ⟨rfl, hEl⟩ := hrel
              have HE1 := Lib.hid hEl.out
              clear hEl hE9
              obtain ⟨s0, s1, g1, g2, hsl⟩ := HE1.out.cells
              obtain ⟨t0, t1, t2, g3, g4⟩ := HE1.out.st.cells
              have hss := HE1.out.st.size
              simp only at t1 t2
              go_wp2_with fail
              go_quiet (fail)
              generalize hW9 : wr.drewN _ = W9
              have hE9 : REl sb g C L w5 c (.slice none 0 0) [] (j, er) W9 := by rw [← hW9]; exact HE1.out.drewN _
              clear hW9 s0 s1 g1 g2 hsl t0 t1 t2 g3 g4 hss HE1
              obtain ⟨s0, s1, g1, g2, hsl⟩ := hE9.cells
              obtain ⟨hrs, hbx, hown, hrw, hkb⟩ := HA.out.kb' hs0 (HKo.out.trans hE9.kb)
              have HX := Lib.hid (fun g' cap' w8 a b d => HA.out.step (q' := (j, er)) (g' := g') (cap' := cap') (w8 := w8) hs0 hg0 HKo.out hE9 HFN.out HLE.out a b d)
              have HOW := Lib.hid (hown.alloc (.cells #[.int .i64 c, .slice none 0 0] 72))
              obtain ⟨d0, d1, d2, d3, d4, d5⟩ := hbx.box
              have hblt := hbx.lt
              have HBX := Lib.hid hbx
              clear hrs hbx hown hrw hkb
              go_wp2_with (at_builtin; refine wpList_append_lies _ rfl _ _ 34 rfl (w.heap.size + 2) 72 i0 (.agg #[.int .i64 0, .slice none 0 0]) 2 32 Tryz.underlying34 hi0 hz01 hz02 hz03 rfl (by decide) _ _ _ rfl HOW.out ⟨W9.heap.size, 0, none⟩ 1 1 [.int .i64 c, .slice none 0 0] rfl rfl (World.news_of_block (heap_alloc_new _ _)) (set_oneP _ _ _ _) (by omega) (by unfold maxLen; omega) (by omega) (by simp; omega) _ rfl ?_)
              intro g' cap' w8 hown' hgrow hat hlt8
              have HE := Lib.hid (HX.out _ _ _ hown' hgrow (by rw [World.size_alloc]; exact hat))
              have hbk := (HBX.out.next (new_below _ (.cells #[.int .i64 c, .slice none 0 0] 72))).keep (hgrow.block (w.heap.size + 1) (by simp; omega) (fun e => by have := (HOW.out.lt _ e.symm).1; omega))
              have ow := hbk.box.c5
              have fw := hbk.free 5
              clear hbk hown' hgrow hat HX HOW HBX d0 d1 d2 d3 d4 d5
              go_wp2
              exact ⟨⟨_, _, _, (j, er), HE, fun q0 => absurd q0 her⟩, by rw [HE.out.st.left, HL.out, if_neg her]; simp; omega⟩
          · exact absurd rfl zz
    · have he : ¬ (e : Int) = 0 := by omega
      have HRR := Lib.hid (show R = .no k e by
        rcases HA.out.alt with ⟨h, _⟩ | ⟨_, h⟩
        · exact absurd h h0
        · exact h)
      obtain ⟨d0, d1, d2, d3, d4, d5⟩ := HA.out.box.box
      obtain ⟨e0, e1, e2, e3, e4, e5⟩ := HA.out.res.box
      have f := HA.out.res.free
      have f0 := f 0
      have f1 := f 1
      have f2 := f 2
      have f3 := f 3
      have f4 := f 4
      have f5 := f 5
      have hz := HA.out.res.lt
      clear f WI NB FL IS
      go_wp2
      refine bodyPost_ret (v := inV ⟨3, 0, [], [], z, S⟩ (.slice none 0 0) (.slice none 0 0) (.slice A S.length cp)) (by simp [results, Tryz.results32, go_sem, inV, e0, e1, e2, e3, e4, e5]) rfl ?_
      exact ⟨_, (k, e), _, _, _, _, _, _, _, _, _, _, _, _, rfl, rfl, HA.out.st.set6 (by omega) (by omega), HA.out.kb.set6 (Nat.le_refl _), .inr ⟨h0, HRR.out⟩⟩
end Go.Proofs.YtbadingdklenhaaGreatDoor
