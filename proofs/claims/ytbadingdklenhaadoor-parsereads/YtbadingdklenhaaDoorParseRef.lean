/-
  What the document's reader of tokens does: is, fail, word, number.
-/
import Derived.Test.YtbadingdklenhaaDoorParseOther
import Derived.Deep.Draws
import Derived.BigQuiet
namespace Go.Proofs.YtbadingdklenhaaDoor
set_option maxRecDepth 100000
open Go.RowKit

/-- The document's reader: at the token q.1, with the error q.2. -/
structure St (sb g C : Nat) (L : List Tk) (q : Nat × Nat) (w : World) : Prop where
  mk ::
  blk : w.heap[sb]? = some (.cells #[.slice (some ⟨g, 0, none⟩) L.length C, .int .i64 (q.1 : Nat), .int .i64 (q.2 : Nat)] 52 (0, 0))
  toks : ToksAt w g L
  ne : g ≠ sb
  le : L.length ≤ C
  mx : C ≤ maxLen
  lt : q.1 < L.length
namespace St
variable {sb g C : Nat} {L : List Tk} {q : Nat × Nat} {w w' : World}
theorem size (h : St sb g C L q w) : sb < w.heap.size := lt_of_block h.blk
theorem next (h : St sb g C L q w) (hb : Below w.heap.size w w') : St sb g C L q w' := ⟨(hb.block _ h.size).trans h.blk, h.toks.next hb, h.ne, h.le, h.mx, h.lt⟩
theorem drew (h : St sb g C L q w) : St sb g C L q w.drew := h.next (Below.refl _ _).drew
theorem cells (h : St sb g C L q w) : w.cell? ⟨sb, 0, none⟩ = some (.slice (some ⟨g, 0, none⟩) L.length C) ∧ w.cell? ⟨sb, 1, none⟩ = some (.int .i64 (q.1 : Nat)) ∧ w.cell? ⟨sb, 2, none⟩ = some (.int .i64 (q.2 : Nat)) ∧ w.frozen? ⟨sb, 1, none⟩ = false ∧ w.frozen? ⟨sb, 2, none⟩ = false := by
  have h1 := h.blk
  refine ⟨?_, ?_, ?_, frozen_of_row _ _ _ _ _ h1, frozen_of_row _ _ _ _ _ h1⟩ <;> (unfold World.cell?; simp only [h1]; rfl)
theorem kept (h : St sb g C L q w) (h1 : w'.heap[sb]? = w.heap[sb]?) (h2 : w'.heap[g]? = w.heap[g]?) (hs : w.heap.size ≤ w'.heap.size) : St sb g C L q w' :=
  ⟨h1.trans h.blk, ⟨Nat.lt_of_lt_of_le h.toks.1 hs, fun j v hj => (World.cell?_of_block (w := w) (a := ⟨g, j, none⟩) h2).trans (h.toks.2 j v hj)⟩, h.ne, h.le, h.mx, h.lt⟩
theorem grown (h : St sb g C L q w) {row : Option Nat} (hg : w.grownBy w' row) {B : Nat} (hB : sb < B ∧ g < B) (hr : ∀ k, row = some k → B ≤ k) : St sb g C L q w' :=
  h.kept (hg.block sb h.size (fun e => by have := hr sb e.symm; omega)) (hg.block g h.toks.1 (fun e => by have := hr g e.symm; omega)) hg.size
theorem other (h : St sb g C L q w) {a : Addr} (h1 : a.block ≠ sb) (h2 : a.block ≠ g) (v : Value) : St sb g C L q (w.setCell a v) :=
  h.kept (Below.heap_setCell _ _ _ _ (Ne.symm h1)) (Below.heap_setCell _ _ _ _ (Ne.symm h2)) (by simp [World.setCell])
/-- It goes on. -/
theorem goes (h : St sb g C L q w) {k : Nat} (hk : k < L.length) : St sb g C L (k, q.2) (w.setCell ⟨sb, 1, none⟩ (.int .i64 (k : Nat))) :=
  ⟨heap_setCell_same w sb 1 _ _ _ h.blk, ⟨by simp [World.setCell]; exact h.toks.1, fun j v hj => (World.cell?_of_block (w := w) (a := ⟨g, j, none⟩) (Below.heap_setCell _ _ _ _ h.ne)).trans (h.toks.2 j v hj)⟩, h.ne, h.le, h.mx, hk⟩
/-- It fails. -/
theorem fails (h : St sb g C L q w) (e : Nat) : St sb g C L (q.1, e) (w.setCell ⟨sb, 2, none⟩ (.int .i64 (e : Nat))) :=
  ⟨heap_setCell_same w sb 2 _ _ _ h.blk, ⟨by simp [World.setCell]; exact h.toks.1, fun j v hj => (World.cell?_of_block (w := w) (a := ⟨g, j, none⟩) (Below.heap_setCell _ _ _ _ h.ne)).trans (h.toks.2 j v hj)⟩, h.ne, h.le, h.mx, h.lt⟩
end St

def nF (e : Nat) (q : Nat × Nat) : Nat × Nat := if q.2 = 0 then (q.1, e) else q
def nW (L : List Tk) (t : List UInt8) (q : Nat × Nat) : Nat × Nat := if q.2 = 0 then (if isW L t q.1 = true then (q.1 + 1, 0) else (q.1, 4)) else q
def nN (L : List Tk) (lo hi : Int) (q : Nat × Nat) : Nat × Nat := if q.2 = 0 then (match numR L lo hi 22 q.1 with
  | .ok _ k => (k, 0)
  | .no j er => (j, er)) else q

set_option maxHeartbeats 1000000 in
theorem rfail_any (sb g C : Nat) (L : List Tk) (q : Nat × Nat) (e : Nat) (ei : Int) (hei : ei = (e : Nat)) (w : World) (h : St sb g C L q w) :
    Calls Tryd.prog 12 #[.pointer (some ⟨sb, 0, none⟩), .int .i64 ei] w fun r w' => r = .returned (.tuple #[]) ∧ St sb g C L (nF e q) w' ∧ Kb sb w w' := by
  subst hei
  obtain ⟨c0, c1, c2, f1, f2⟩ := h.cells
  have hs := h.size
  by_cases h0 : q.2 = 0
  · have e0 : nF e q = (q.1, e) := if_pos h0
    have HF := Lib.hid (h.fails e)
    have HK := Lib.hid ((Kb.refl sb w).store (a := ⟨sb, 2, none⟩) rfl (.int .i64 (e : Nat)))
    rw [e0]
    rw [h0] at c2
    clear h h0 e0
    go_enter Tryd.func12, Tryd.ntmps12
    go_wp2
    go_end0
    exact ⟨rfl, HF.out, HK.out⟩
  · have e0 : nF e q = q := if_neg h0
    have h1 : ¬ (q.2 : Int) = 0 := by omega
    rw [e0]
    clear e0 h0
    go_enter Tryd.func12, Tryd.ntmps12
    go_wp2
    go_end0
    exact ⟨rfl, h, Kb.refl _ _⟩
set_option maxHeartbeats 1000000 in
theorem ris_any (sb g C : Nat) (L : List Tk) (q : Nat × Nat) (t : ByteArray) (u : List UInt8) (hu : t.data.toList = u) (w : World) (h : St sb g C L q w) :
    Calls Tryd.prog 11 #[.pointer (some ⟨sb, 0, none⟩), .string t] w fun r w' => r = .returned (.bool (isW L u q.1)) ∧ Below w.heap.size w w' := by
  obtain ⟨c0, c1, c2, f1, f2⟩ := h.cells
  have hs := h.size
  have hx : ∃ x, L[q.1]? = some x := ⟨_, List.getElem?_eq_getElem h.lt⟩
  obtain ⟨x, hx⟩ := hx
  obtain ⟨t0, t1, t2, t3, t4⟩ := h.toks.get hx
  have hlt : (q.1 : Int) < (L.length : Int) := by have := h.lt; omega
  have hl0 : (0 : Int) ≤ (q.1 : Int) := by omega
  have hmx := h.mx
  have hle := h.le
  unfold maxLen at hmx
  generalize hk : q.1 = k at *
  by_cases hc : x.kind = 0
  · rw [hc] at t0
    by_cases ht : x.text = u
    · have e0 : isW L u k = true := by unfold isW; rw [hx]; simp [hc, ht]
      have hS : (⟨x.text.toArray⟩ : ByteArray) = t := ba_eq.2 (ht.trans hu.symm)
      rw [hS] at t1
      rw [e0]
      clear e0 hS ht hu hc hx h hk
      go_enter Tryd.func11, Tryd.ntmps11
      go_wp2
      go_quiet (fail)
      go_wp2
      go_ret
      exact ⟨rfl, below_drewN (Below.refl _ _) _⟩
    · have e0 : isW L u k = false := by unfold isW; rw [hx]; simp [ht]
      have hS : ¬ (⟨x.text.toArray⟩ : ByteArray) = t := fun e => ht ((ba_eq.1 e).trans hu)
      generalize (⟨x.text.toArray⟩ : ByteArray) = T at t1 hS
      have hQ := ba_ne hS
      rw [e0]
      clear e0 hS ht hu hc hx h hk
      go_enter Tryd.func11, Tryd.ntmps11
      go_wp2
      go_quiet (fail)
      go_wp2
      go_ret
      exact ⟨rfl, below_drewN (Below.refl _ _) _⟩
  · have e0 : isW L u k = false := by unfold isW; rw [hx]; simp [hc]
    have hc2 : ((x.kind : Int) == 0) = false := by simp; omega
    rw [e0]
    clear e0 hu hc hx h hk
    go_enter Tryd.func11, Tryd.ntmps11
    go_wp2
    go_quiet (fail)
    go_wp2
    go_ret
    exact ⟨rfl, below_drewN (Below.refl _ _) _⟩

set_option maxHeartbeats 1000000 in
theorem rword_any (sb g C : Nat) (L : List Tk) (hE : EndL L) (q : Nat × Nat) (t : ByteArray) (u : List UInt8) (hu : t.data.toList = u) (w : World) (h : St sb g C L q w) :
    Calls Tryd.prog 29 #[.pointer (some ⟨sb, 0, none⟩), .string t] w fun r w' => r = .returned (.tuple #[]) ∧ St sb g C L (nW L u q) w' ∧ Kb sb w w' := by
  have IS := ris_any sb g C L q t u hu w h
  have FL := fun q W hW => rfail_any sb g C L q 4 4 rfl W hW
  obtain ⟨k, e⟩ := q
  simp only at *
  by_cases hw : isW L u k = true
  · have hg := isW_goes hE hw
    rw [hw] at IS
    by_cases h0 : e = 0
    · subst h0
      have e0 : nW L u (k, 0) = (k + 1, 0) := by unfold nW; rw [if_pos rfl]; exact if_pos hw
      rw [e0]
      clear FL hw e0
      go_enter Tryd.func29, Tryd.ntmps29
      go_wp2_with fail
      with_reducible refine IS.mono ?_
      rintro r w1 ⟨rfl, b1⟩
      have h1 := h.next b1
      obtain ⟨c0, c1, c2, f1, f2⟩ := h1.cells
      have hs := h1.size
      have hlt := h.lt
      have hle := h.le
      have hmx := h.mx
      unfold maxLen at hmx
      simp only at c1 c2 hlt
      have HG := Lib.hid (h1.goes (k := k + 1) hg)
      have HK := Lib.hid (((Kb.of (r := sb) b1)).store (a := ⟨sb, 1, none⟩) rfl (.int .i64 ((k + 1 : Nat) : Int)))
      have hki : (k : Int) + 1 ≤ 9223372036854775807 := by omega
      have hki0 : (0 : Int) ≤ (k : Int) := by omega
      clear h h1 b1 IS
      go_wp2
      go_end0
      exact ⟨rfl, HG.out, HK.out⟩
    · have e0 : nW L u (k, e) = (k, e) := if_neg h0
      have he : ¬ (e : Int) = 0 := by omega
      rw [e0]
      clear FL hw e0 h0
      go_enter Tryd.func29, Tryd.ntmps29
      go_wp2_with fail
      with_reducible refine IS.mono ?_
      rintro r w1 ⟨rfl, b1⟩
      have h1 := h.next b1
      obtain ⟨c0, c1, c2, f1, f2⟩ := h1.cells
      have hs := h1.size
      simp only at c1 c2
      have HG := Lib.hid h1
      have HK := Lib.hid (Kb.of (r := sb) b1)
      clear h h1 b1 IS
      go_wp2
      go_end0
      exact ⟨rfl, HG.out, HK.out⟩
  · have hwf : isW L u k = false := by simpa using hw
    rw [hwf] at IS
    by_cases h0 : e = 0
    · subst h0
      have e0 : nW L u (k, 0) = (k, 4) := by unfold nW; rw [if_pos rfl]; exact if_neg hw
      rw [e0]
      clear hw e0 hwf
      go_enter Tryd.func29, Tryd.ntmps29
      go_wp2_with fail
      with_reducible refine IS.mono ?_
      rintro r w1 ⟨rfl, b1⟩
      go_wp2_with fail
      with_reducible refine (FL _ _ (h.next b1)).mono ?_
      rintro r w2 ⟨rfl, h2, kb⟩
      have h2' : St sb g C L (k, 4) w2 := h2
      obtain ⟨c0, c1, c2, f1, f2⟩ := h2'.cells
      have hs := h2'.size
      simp only at c1 c2
      have HG := Lib.hid h2'
      have HK := Lib.hid ((Kb.of (r := sb) b1).trans kb)
      clear h h2 h2' b1 IS kb FL
      go_wp2
      go_end0
      exact ⟨rfl, HG.out, HK.out⟩
    · have e0 : nW L u (k, e) = (k, e) := if_neg h0
      have he : ¬ (e : Int) = 0 := by omega
      have e1 : nF 4 (k, e) = (k, e) := if_neg h0
      rw [e0]
      have FL1 := fun W hW => FL (k, e) W hW
      rw [e1] at FL1
      clear hw e0 hwf h0 FL e1
      go_enter Tryd.func29, Tryd.ntmps29
      go_wp2_with fail
      with_reducible refine IS.mono ?_
      rintro r w1 ⟨rfl, b1⟩
      go_wp2_with fail
      with_reducible refine (FL1 _ (h.next b1)).mono ?_
      rintro r w2 ⟨rfl, h2, kb⟩
      obtain ⟨c0, c1, c2, f1, f2⟩ := h2.cells
      have hs := h2.size
      simp only at c1 c2
      have HG := Lib.hid h2
      have HK := Lib.hid ((Kb.of (r := sb) b1).trans kb)
      clear h h2 b1 IS kb FL1
      go_wp2
      go_end0
      exact ⟨rfl, HG.out, HK.out⟩

set_option maxHeartbeats 2000000 in
theorem rnumber_any (sb g C : Nat) (L : List Tk) (hE : EndL L) (q : Nat × Nat) (lo hi : Int) (w : World) (h : St sb g C L q w) :
    Calls Tryd.prog 30 #[.pointer (some ⟨sb, 0, none⟩), .int .i64 lo, .int .i64 hi] w fun r w' => ∃ n, r = .returned (.int .i64 n) ∧ (∀ m k', q.2 = 0 → numR L lo hi 22 q.1 = .ok m k' → n = m) ∧ St sb g C L (nN L lo hi q) w' ∧ Kb sb w w' := by
  obtain ⟨x, hx⟩ : ∃ x, L[q.1]? = some x := ⟨_, List.getElem?_eq_getElem h.lt⟩
  have FL4 := fun q W hW => rfail_any sb g C L q 4 4 rfl W hW
  have FL22 := fun q W hW => rfail_any sb g C L q 22 22 rfl W hW
  obtain ⟨c0, c1, c2, f1, f2⟩ := h.cells
  have hs := h.size
  have hgs := h.toks.1
  obtain ⟨t0, t1, t2, t3, t4⟩ := h.toks.get hx
  have hlt := h.lt
  have hle := h.le
  have hmx := h.mx
  unfold maxLen at hmx
  have d1 : (0 : Int) ≤ (q.1 : Int) := by omega
  have d2 : (q.1 : Int) < (L.length : Int) := by omega
  obtain ⟨k, e⟩ := q
  simp only at *
  have HN0 := Lib.hid (show ∀ m k', e = 0 → numR L lo hi 22 k = .ok m k' → x.n = m from fun m k' _ hm => by
    obtain ⟨t, ht, _, h3, _⟩ := numR_ok hm
    rw [hx] at ht
    obtain rfl := Option.some.inj ht
    exact h3)
  obtain ⟨kd, hkd⟩ : ∃ kd : Int, ((x.kind : Nat) : Int) = kd := ⟨_, rfl⟩
  rw [hkd] at t0
  have nb := new_below w (.cells #[.int .i64 kd, .string ⟨x.text.toArray⟩, .int .i64 x.n, .int .i64 (x.line : Nat), .int .i64 (x.col : Nat)] 58)
  have H1 := Lib.hid (h.next nb)
  have HT := Lib.hid (tbox_new w (.int .i64 kd) (.string ⟨x.text.toArray⟩) (.int .i64 x.n) (.int .i64 (x.line : Nat)) (.int .i64 (x.col : Nat)) 58)
  clear nb
  have H1d := Lib.hid (H1.out.drew)
  have HTd := Lib.hid (HT.out.next (Below.refl _ _).drew)
  clear H1 HT
  obtain ⟨W1, hW1⟩ : ∃ W1, W1 = (w.alloc (.cells #[.int .i64 kd, .string ⟨x.text.toArray⟩, .int .i64 x.n, .int .i64 (x.line : Nat), .int .i64 (x.col : Nat)] 58)).drew := ⟨_, rfl⟩
  have HB := Lib.hid (show Below w.heap.size w W1 by rw [hW1]; exact (new_below _ _).drew)
  rw [← hW1] at H1d HTd
  have HW1 := Lib.hid hW1
  clear hW1
  have fin : ∀ W q', Kb sb W1 W → St sb g C L q' W → TBox w.heap.size (.int .i64 kd) (.string ⟨x.text.toArray⟩) (.int .i64 x.n) (.int .i64 (x.line : Nat)) (.int .i64 (x.col : Nat)) W := fun W q' kb _ => HTd.out.kb kb (by omega)
  have HF := Lib.hid fin
  clear fin
  -- what stands behind the first test
  by_cases hc : x.kind = 1
  · have hkd1 : kd = 1 := by omega
    by_cases h0 : e = 0
    · subst h0
      by_cases hr : lo ≤ x.n ∧ x.n ≤ hi
      · have hg := hE.goes hx (by omega)
        have e0 : nN L lo hi (k, 0) = (k + 1, 0) := by
          have e1 : numR L lo hi 22 k = .ok x.n (k + 1) := by unfold numR; rw [hx]; simp only; rw [if_pos hc, if_pos hr]
          unfold nN
          simp only [if_true]
          rw [e1]
        obtain ⟨r1, r2⟩ := hr
        have r3 : ¬ x.n < lo := by omega
        have r4 : ¬ hi < x.n := by omega
        rw [e0]
        clear e0 hc hx FL4 FL22 r1 r2 hkd
        subst hkd1
        go_enter Tryd.func30, Tryd.ntmps30
        go_wp2
        go_region
        rw [← HW1.out]
        obtain ⟨b0, b1, b2, b3, b4, _, _, _, _, _, hz⟩ := HTd.out
        obtain ⟨y0, y1, y2, g1, g2⟩ := H1d.out.cells
        have hs1 := H1d.out.size
        simp only at y1 y2
        have HG := Lib.hid (H1d.out.goes (k := k + 1) hg)
        have HK := Lib.hid (((Kb.of (r := sb) HB.out)).store (a := ⟨sb, 1, none⟩) rfl (.int .i64 ((k + 1 : Nat) : Int)))
        have hns : ¬ sb = w.heap.size := by omega
        clear h t0 t1 t2 t3 t4 c0 c1 c2 f1 f2 H1d HTd HB
        go_wp2
        go_ret
        exact ⟨_, rfl, fun m k' hm => (by first | exact HN0.out m k' hm | exact HN0.out m k' rfl hm | exact HN0.out m k' trivial hm), HG.out, HK.out⟩
      · have e0 : nN L lo hi (k, 0) = (k, 22) := by
          have e1 : numR L lo hi 22 k = .no k 22 := by unfold numR; rw [hx]; simp only; rw [if_pos hc, if_neg hr]
          unfold nN
          simp only [if_true]
          rw [e1]
        rw [e0]
        have F22 := FL22 (k, 0)
        rw [show nF 22 (k, 0) = (k, 22) from rfl] at F22
        have hk1 : x.n < lo ∨ (¬ x.n < lo ∧ hi < x.n) := by omega
        clear e0 hc hx FL4 FL22 hkd hr
        subst hkd1
        rcases hk1 with q1 | ⟨q1, q2⟩
        all_goals
          go_enter Tryd.func30, Tryd.ntmps30
          go_wp2
          go_region
          rw [← HW1.out]
          obtain ⟨b0, b1, b2, b3, b4, _, _, _, _, _, hz⟩ := HTd.out
          obtain ⟨y0, y1, y2, g1, g2⟩ := H1d.out.cells
          have hs1 := H1d.out.size
          clear t0 t1 t2 t3 t4 c0 c1 c2 f1 f2
          go_wp2_with fail
          with_reducible refine (F22 _ H1d.out).mono ?_
          rintro r w2 ⟨rfl, h2, kb2⟩
          obtain ⟨a0, a1, a2, a3, a4, _, _, _, _, _, hz2⟩ := HF.out _ _ kb2 h2
          obtain ⟨z0, z1, z2, g3, g4⟩ := h2.cells
          have hs2 := h2.size
          simp only at z1 z2
          have HG := Lib.hid h2
          have HK := Lib.hid ((Kb.of (r := sb) HB.out).trans kb2)
          clear h h2 kb2 H1d HTd HB HF y0 y1 y2 g1 g2 b0 b1 b2 b3 b4 F22
          go_wp2
          go_ret
          exact ⟨_, rfl, fun m k' hm => (by first | exact HN0.out m k' hm | exact HN0.out m k' rfl hm | exact HN0.out m k' trivial hm), HG.out, HK.out⟩
    · have e0 : nN L lo hi (k, e) = (k, e) := if_neg h0
      have he : ¬ (e : Int) = 0 := by omega
      rw [e0]
      have F22 := FL22 (k, e)
      rw [show nF 22 (k, e) = (k, e) from if_neg h0] at F22
      have hk1 : (¬ x.n < lo ∧ ¬ hi < x.n) ∨ x.n < lo ∨ (¬ x.n < lo ∧ hi < x.n) := by omega
      clear e0 hc hx FL4 FL22 hkd
      subst hkd1
      rcases hk1 with ⟨q1, q2⟩ | q1 | ⟨q1, q2⟩
      · go_enter Tryd.func30, Tryd.ntmps30
        go_wp2
        go_region
        rw [← HW1.out]
        obtain ⟨b0, b1, b2, b3, b4, _, _, _, _, _, hz⟩ := HTd.out
        obtain ⟨y0, y1, y2, g1, g2⟩ := H1d.out.cells
        have hs1 := H1d.out.size
        simp only at y1 y2
        have HK := Lib.hid (Kb.of (r := sb) HB.out)
        clear h t0 t1 t2 t3 t4 c0 c1 c2 f1 f2 HTd HB HF F22
        go_wp2
        go_ret
        exact ⟨_, rfl, fun m k' hm0 => absurd hm0 h0, H1d.out, HK.out⟩
      all_goals
        go_enter Tryd.func30, Tryd.ntmps30
        go_wp2
        go_region
        rw [← HW1.out]
        obtain ⟨b0, b1, b2, b3, b4, _, _, _, _, _, hz⟩ := HTd.out
        obtain ⟨y0, y1, y2, g1, g2⟩ := H1d.out.cells
        have hs1 := H1d.out.size
        clear t0 t1 t2 t3 t4 c0 c1 c2 f1 f2
        go_wp2_with fail
        with_reducible refine (F22 _ H1d.out).mono ?_
        rintro r w2 ⟨rfl, h2, kb2⟩
        obtain ⟨a0, a1, a2, a3, a4, _, _, _, _, _, hz2⟩ := HF.out _ _ kb2 h2
        obtain ⟨z0, z1, z2, g3, g4⟩ := h2.cells
        have hs2 := h2.size
        simp only at z1 z2
        have HG := Lib.hid h2
        have HK := Lib.hid ((Kb.of (r := sb) HB.out).trans kb2)
        clear h h2 kb2 H1d HTd HB HF y0 y1 y2 g1 g2 b0 b1 b2 b3 b4 F22
        go_wp2
        go_ret
        exact ⟨_, rfl, fun m k' hm0 => absurd hm0 h0, HG.out, HK.out⟩
  · have hkn : ¬ kd = 1 := by omega
    obtain ⟨e', he1, he2, he3, he4⟩ : ∃ e', nN L lo hi (k, e) = (k, e') ∧ nF 4 (k, e) = (k, e') ∧ e' ≠ 0 ∧ (e = 0 → ∀ m k', numR L lo hi 22 k = .ok m k' → False) := by
      have hnn : numR L lo hi 22 k = .no k 4 := by unfold numR; rw [hx]; simp only; rw [if_neg hc]
      by_cases h0 : e = 0
      · subst h0
        refine ⟨4, ?_, rfl, by omega, fun _ m k' hm => by rw [hnn] at hm; cases hm⟩
        unfold nN
        simp only [if_true]
        rw [hnn]
      · exact ⟨e, if_neg h0, if_neg h0, h0, fun q => absurd q h0⟩
    have he : ¬ (e' : Int) = 0 := by omega
    rw [he1]
    have F4 := FL4 (k, e)
    rw [he2] at F4
    have F22 := FL22 (k, e')
    rw [show nF 22 (k, e') = (k, e') from if_neg he3] at F22
    have hk1 : (¬ x.n < lo ∧ ¬ hi < x.n) ∨ x.n < lo ∨ (¬ x.n < lo ∧ hi < x.n) := by omega
    have HE4 := Lib.hid he4
    clear hc hx FL4 FL22 hkd he1 he2 he3 he4
    rcases hk1 with ⟨q1, q2⟩ | q1 | ⟨q1, q2⟩
    · go_enter Tryd.func30, Tryd.ntmps30
      go_wp2
      go_region
      rw [← HW1.out]
      obtain ⟨b0, b1, b2, b3, b4, _, _, _, _, _, hz⟩ := HTd.out
      clear t0 t1 t2 t3 t4 c0 c1 c2 f1 f2
      go_wp2_with fail
      with_reducible refine (F4 _ H1d.out).mono ?_
      rintro r w2 ⟨rfl, h2, kb2⟩
      obtain ⟨a0, a1, a2, a3, a4, _, _, _, _, _, hz2⟩ := HF.out _ _ kb2 h2
      obtain ⟨z0, z1, z2, g3, g4⟩ := h2.cells
      have hs2 := h2.size
      simp only at z1 z2
      have HG := Lib.hid h2
      have HK := Lib.hid ((Kb.of (r := sb) HB.out).trans kb2)
      clear h h2 kb2 H1d HTd HB HF b0 b1 b2 b3 b4 F22 F4
      go_wp2
      go_ret
      exact ⟨_, rfl, fun m k' hm0 hm => (HE4.out hm0 m k' hm).elim, HG.out, HK.out⟩
    all_goals
      go_enter Tryd.func30, Tryd.ntmps30
      go_wp2
      go_region
      rw [← HW1.out]
      obtain ⟨b0, b1, b2, b3, b4, _, _, _, _, _, hz⟩ := HTd.out
      clear t0 t1 t2 t3 t4 c0 c1 c2 f1 f2
      go_wp2_with fail
      with_reducible refine (F4 _ H1d.out).mono ?_
      rintro r w2 ⟨rfl, h2, kb2⟩
      obtain ⟨a0, a1, a2, a3, a4, _, _, _, _, _, hz2⟩ := HF.out _ _ kb2 h2
      clear b0 b1 b2 b3 b4 F4
      go_wp2_with fail
      with_reducible refine (F22 _ h2).mono ?_
      rintro r w3 ⟨rfl, h3, kb3⟩
      obtain ⟨b0, b1, b2, b3, b4, _, _, _, _, _, hz3⟩ := HF.out _ _ (kb2.trans kb3) h3
      obtain ⟨z0, z1, z2, g3, g4⟩ := h3.cells
      have hs2 := h3.size
      simp only at z1 z2
      have HG := Lib.hid h3
      have HK := Lib.hid (((Kb.of (r := sb) HB.out).trans kb2).trans kb3)
      clear h h2 h3 kb2 kb3 H1d HTd HB HF a0 a1 a2 a3 a4 F22
      go_wp2
      go_ret
      exact ⟨_, rfl, fun m k' hm0 hm => (HE4.out hm0 m k' hm).elim, HG.out, HK.out⟩
end Go.Proofs.YtbadingdklenhaaDoor
