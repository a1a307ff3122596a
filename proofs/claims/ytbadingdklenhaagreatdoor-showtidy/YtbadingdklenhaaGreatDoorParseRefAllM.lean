/-
  What the document's Parse does with every text.
-/
import Derived.Test.YtbadingdklenhaaGreatDoorParseRefM
import Derived.Test.YtbadingdklenhaaGreatDoorParseFull
import Derived.Test.YtbadingdklenhaaGreatDoorLexRlex
import Derived.Test.YtbadingdklenhaaGreatDoorRegionKit2
namespace Go.Proofs.YtbadingdklenhaaGreatDoor
set_option maxRecDepth 100000
open Go.RowKit

theorem end8d {M : Nat} {v : Value} {I : In} {w w5 : World} {v0 v1 v2 v3 v4 v5 u0 u1 : Value} (hI : Ins (fun q => M ≤ q) (fun q => M ≤ q) w5 v I) (hB : Below w.heap.size w w5) (hM : w.heap.size + 1 < M) :
    Ins (fun q => w.heap.size ≤ q) (fun q => w.heap.size ≤ q) (((set6 w.heap.size v0 v1 v2 v3 v4 v5 w5).setCell ⟨w.heap.size + 1, 0, none⟩ u0).setCell ⟨w.heap.size + 1, 1, none⟩ u1) v I ∧ Below w.heap.size w (((set6 w.heap.size v0 v1 v2 v3 v4 v5 w5).setCell ⟨w.heap.size + 1, 0, none⟩ u0).setCell ⟨w.heap.size + 1, 1, none⟩ u1) := end8 hI hB hM
set_option maxHeartbeats 4000000 in
theorem rparse_no (s : ByteArray) (he : ¬ (lexP s.data.toList).err = 0) (w : World) : Calls Tryz.prog 13 #[.string s] w (IsPs (parseL s.data.toList) w) := by
  have LX := fun W => rlex_any s W
  obtain ⟨W2, hW2⟩ : ∃ q, q = ((w.alloc (.cells #[.int .i64 0, .int .i64 0, .slice none 0 0, .slice none 0 0, .int .i64 0, .slice none 0 0] 36)).alloc (.cells #[.int .i64 0, .int .i64 0] 47)).alloc (.cells #[.int .i64 0, .int .i64 0, .slice none 0 0, .slice none 0 0, .int .i64 0, .slice none 0 0] 36) := ⟨_, rfl⟩
  have hsz : W2.heap.size = w.heap.size + 3 := by rw [hW2]; simp
  have hb2 : Below w.heap.size w W2 := by
    rw [hW2]
    exact ((new_below w _).alloc (by simp) _).alloc (by simp; omega) _
  have hI2 : IBlk w.heap.size 36 (.int .i64 0) (.int .i64 0) (.slice none 0 0) (.slice none 0 0) (.int .i64 0) (.slice none 0 0) W2 := by
    rw [hW2]
    exact ((iblk_new w _ _ _ _ _ _ _).next (new_below _ _)).next (new_below _ _)
  have hP2 : W2.heap[w.heap.size + 1]? = some (.cells #[.int .i64 0, .int .i64 0] 47 (0, 0)) := by
    rw [hW2]
    rw [Below.heap_alloc _ _ _ (by simp)]
    have := heap_alloc_new (w.alloc (.cells #[.int .i64 0, .int .i64 0, .slice none 0 0, .slice none 0 0, .int .i64 0, .slice none 0 0] 36)) (.cells #[.int .i64 0, .int .i64 0] 47)
    rw [World.size_alloc] at this
    exact this
  have hN2 : IBlk (w.heap.size + 1 + 1) 36 (.int .i64 0) (.int .i64 0) (.slice none 0 0) (.slice none 0 0) (.int .i64 0) (.slice none 0 0) W2 := by
    rw [hW2]
    have := iblk_new ((w.alloc (.cells #[.int .i64 0, .int .i64 0, .slice none 0 0, .slice none 0 0, .int .i64 0, .slice none 0 0] 36)).alloc (.cells #[.int .i64 0, .int .i64 0] 47)) (.int .i64 0) (.int .i64 0) (.slice none 0 0) (.slice none 0 0) (.int .i64 0) (.slice none 0 0) 36
    rw [World.size_alloc, World.size_alloc] at this
    exact this
  have ep : parseL s.data.toList = ⟨zIn, (lexP s.data.toList).line, (lexP s.data.toList).col, (lexP s.data.toList).err⟩ := by unfold parseL; exact if_neg he
  rw [ep]
  generalize hR : lexP s.data.toList = RS at *
  obtain ⟨L, pl1, pc1, er⟩ := RS
  simp only at *
  have he2 : ¬ (er : Int) = 0 := by omega
  clear hR ep he
  go_enter Tryz.func13, Tryz.ntmps13
  go_wp2_with fail
  rw [← hW2]
  with_reducible refine (LX _).mono ?_
  rintro e w3 ⟨v, rfl, own, b3⟩
  have hT := toks_of_own own
  obtain ⟨A, C, rfl, hc1, hc2, hg⟩ := hT
  have hs3 := b3.size
  have nb := new_below w3 (.cells #[.int .i64 (pl1 : Nat), .int .i64 (pc1 : Nat)] 47)
  have hn4 := heap_alloc_new w3 (.cells #[.int .i64 (pl1 : Nat), .int .i64 (pc1 : Nat)] 47)
  obtain ⟨W4, hW4⟩ : ∃ q, q = w3.alloc (.cells #[.int .i64 (pl1 : Nat), .int .i64 (pc1 : Nat)] 47) := ⟨_, rfl⟩
  rw [← hW4] at nb hn4
  have hI3 := (hI2.next b3).next nb
  have hN3 := (hN2.next b3).next nb
  have hP3 : W4.heap[w.heap.size + 1]? = some (.cells #[.int .i64 0, .int .i64 0] 47 (0, 0)) := (nb.block _ (by omega)).trans ((b3.block _ (by omega)).trans hP2)
  obtain ⟨x0, x1, x2, x3, x4, x5⟩ := hN3.box
  obtain ⟨z0, z1, z2, z3, z4, z5⟩ := hI3.box
  have y0 : W4.cell? ⟨w.heap.size + 1, 0, none⟩ = some (.int .i64 0) := by unfold World.cell?; simp only [hP3]; rfl
  have y1 : W4.cell? ⟨w.heap.size + 1, 1, none⟩ = some (.int .i64 0) := by unfold World.cell?; simp only [hP3]; rfl
  have f := hI3.free
  have f0 := f 0
  have f1 := f 1
  have f2 := f 2
  have f3 := f 3
  have f4 := f 4
  have f5 := f 5
  have a0 : W4.cell? ⟨w3.heap.size, 0, none⟩ = some (.int .i64 (pl1 : Nat)) := by unfold World.cell?; simp only [hn4]; rfl
  have a1 : W4.cell? ⟨w3.heap.size, 1, none⟩ = some (.int .i64 (pc1 : Nat)) := by unfold World.cell?; simp only [hn4]; rfl
  have g0 : W4.frozen? ⟨w.heap.size + 1, 0, none⟩ = false := frozen_of_row W4 _ _ _ _ hP3
  have g1 : W4.frozen? ⟨w.heap.size + 1, 1, none⟩ = false := frozen_of_row W4 _ _ _ _ hP3
  have hn0 : w.heap.size < W4.heap.size := hI3.lt
  have hn1 : w.heap.size + 1 < W4.heap.size := lt_of_block hP3
  have hn2 : w.heap.size + 1 + 1 < W4.heap.size := hN3.lt
  have hn3 : w3.heap.size < W4.heap.size := lt_of_block hn4
  have ne0 : ¬ w3.heap.size = w.heap.size := by omega
  have ne1 : ¬ w3.heap.size = w.heap.size + 1 := by omega
  have ne2 : ¬ w3.heap.size = w.heap.size + 1 + 1 := by omega
  have HB4 := Lib.hid ((hb2.trans (b3.mono (by omega))).trans (nb.mono (by omega)))
  have hI := Lib.hid (ins_zero (fun q => w.heap.size + 2 ≤ q) (fun q => w.heap.size + 2 ≤ q) W4)
  have q0 := hI3.set6 (v0 := .int .i64 0) (v1 := .int .i64 0) (v2 := .slice none 0 0) (v3 := .slice none 0 0) (v4 := .int .i64 0) (v5 := .slice none 0 0)
  have q1 := ((held_set6 (b := w.heap.size) (v0 := .int .i64 0) (v1 := .int .i64 0) (v2 := .slice none 0 0) (v3 := .slice none 0 0) (v4 := .int .i64 0) (v5 := .slice none 0 0) (w := W4) (F := fun q => q = w.heap.size + 1) (fun q hq => by omega)).2 _ rfl (by omega)).trans hP3
  have q2 := heap_setCell_same _ (w.heap.size + 1) 1 _ _ (.int .i64 (pc1 : Nat)) (heap_setCell_same _ (w.heap.size + 1) 0 _ _ (.int .i64 (pl1 : Nat)) q1)
  have q3 := (q0.other (a := ⟨w.heap.size + 1, 0, none⟩) (show w.heap.size ≠ w.heap.size + 1 by omega) (.int .i64 (pl1 : Nat))).other (a := ⟨w.heap.size + 1, 1, none⟩) (show w.heap.size ≠ w.heap.size + 1 by omega) (.int .i64 (pc1 : Nat))
  have q4 := end8 (v0 := .int .i64 0) (v1 := .int .i64 0) (v2 := .slice none 0 0) (v3 := .slice none 0 0) (v4 := .int .i64 0) (v5 := .slice none 0 0) (u0 := .int .i64 (pl1 : Nat)) (u1 := .int .i64 (pc1 : Nat)) hI.out HB4.out (by omega)
  have HQ := Lib.hid (And.intro q3 (And.intro q2 q4))
  unfold set6 at HQ
  clear f hI2 hP2 hN2 hI3 hP3 hN3 b3 hb2 own hg hW2 LX q0 q1 q2 q3 q4 hsz hs3 hc1 hc2 nb hn4 hI
  go_wp2
  rw [← hW4]
  clear hW4 he2
  go_region
  obtain ⟨z1', z2', z3', z4'⟩ := HQ.out
  clear HQ
  revert z1' z2' z3' z4'
  generalize ((((((((W4.setCell _ _).setCell _ _).setCell _ _).setCell _ _).setCell _ _).setCell _ _).setCell _ _).setCell _ _) = W8
  intro z1' z2' z3' z4'
  have b8 : Below W8.heap.size W8 W8.drew := (Below.refl _ _).drew
  have z5' := z1'.next b8
  obtain ⟨e0, e1, e2, e3, e4, e5⟩ := z5'.box
  have e6 : W8.drew.cell? ⟨w.heap.size + 1, 0, none⟩ = some (.int .i64 (pl1 : Nat)) := by
    show W8.cell? _ = _
    unfold World.cell?; simp only [z2']; rfl
  have e7 : W8.drew.cell? ⟨w.heap.size + 1, 1, none⟩ = some (.int .i64 (pc1 : Nat)) := by
    show W8.cell? _ = _
    unfold World.cell?; simp only [z2']; rfl
  have z6' := z3'.next b8
  have z7' := z4'.trans (b8.mono z4'.size)
  clear z1' z2' z3' z4' z5' b8
  go_wp2
  refine bodyPost_ret (v := .tuple #[.agg #[.int .i64 0, .int .i64 0, .slice none 0 0, .slice none 0 0, .int .i64 0, .slice none 0 0], .agg #[.int .i64 (pl1 : Nat), .int .i64 (pc1 : Nat)], .int .i64 (er : Nat)]) (by simp [results, Tryz.results13, go_sem, e0, e1, e2, e3, e4, e5, e6, e7]) rfl ?_
  exact ⟨_, rfl, z6', z7'⟩

/-- What stands while the document's Parse goes on: its results, the zero instance, its reader. -/
structure Fr (sb g C : Nat) (L : List Tk) (q : Nat × Nat) (w W : World) : Prop where
  mk ::
  res : IBlk w.heap.size 36 (.int .i64 0) (.int .i64 0) (.slice none 0 0) (.slice none 0 0) (.int .i64 0) (.slice none 0 0) W
  pos : W.heap[w.heap.size + 1]? = some (.cells #[.int .i64 0, .int .i64 0] 47 (0, 0))
  non : IBlk (w.heap.size + 1 + 1) 36 (.int .i64 0) (.int .i64 0) (.slice none 0 0) (.slice none 0 0) (.int .i64 0) (.slice none 0 0) W
  st : St sb g C L q W
  be : Below w.heap.size w W
  sep : w.heap.size + 1 + 1 < sb ∧ w.heap.size + 1 + 1 < g
section
variable {sb g C : Nat} {L : List Tk} {q q' : Nat × Nat} {w W W' : World}
theorem Fr.next (h : Fr sb g C L q w W) (hb : Below W.heap.size W W') : Fr sb g C L q w W' :=
  ⟨h.res.next hb, (hb.block _ (lt_of_block h.pos)).trans h.pos, h.non.next hb, h.st.next hb, h.be.trans (hb.mono h.be.size), h.sep⟩
theorem Fr.kb (h : Fr sb g C L q w W) (k : Kb sb W W') (hs : St sb g C L q' W') : Fr sb g C L q' w W' :=
  ⟨h.res.kb k (by have := h.sep; omega), (k.block _ (lt_of_block h.pos) (by have := h.sep; omega)).trans h.pos, h.non.kb k (by have := h.sep; omega), hs, h.be.trans (k.below (by have := h.sep; omega) h.be.size), h.sep⟩
/-- A store into x, a block behind. -/
theorem Fr.put (h : Fr sb g C L q w W) {x : Nat} {v0 v1 v2 v3 v4 v5 : Value} (h1 : w.heap.size + 1 + 1 < x) (h2 : x ≠ sb) (h3 : x ≠ g) : Fr sb g C L q w (Go.Proofs.YtbadingdklenhaaGreatDoor.set6 x v0 v1 v2 v3 v4 v5 W) := by
  have b1 : Below x W (Go.Proofs.YtbadingdklenhaaGreatDoor.set6 x v0 v1 v2 v3 v4 v5 W) := below_set6
  have b2 : Below w.heap.size W (Go.Proofs.YtbadingdklenhaaGreatDoor.set6 x v0 v1 v2 v3 v4 v5 W) := b1.mono (by omega)
  have e0 := b1.block w.heap.size (by omega)
  have e1 := b1.block (w.heap.size + 1) (by omega)
  have e2 := b1.block (w.heap.size + 1 + 1) (by omega)
  exact ⟨h.res.keep e0, e1.trans h.pos, h.non.keep e2, h.st.set6 h2 h3, h.be.trans b2, h.sep⟩
end
/-- What x holds behind its part: an instance, or whatever. -/
def Mid (L : List Tk) (w : World) (xb : Nat) (q : Nat × Nat) (W : World) : Prop := ∃ (a bb : Int) (A0 : Option Addr) (m0 C0 : Nat) (A1 : Option Addr) (m1 C1 : Nat) (zz : Int) (A2 : Option Addr) (m2 C2 : Nat),
  IBlk xb 36 (.int .i64 a) (.int .i64 bb) (.slice A0 m0 C0) (.slice A1 m1 C1) (.int .i64 zz) (.slice A2 m2 C2) W ∧
  ((q.2 = 0 ∧ ∃ I, instR L = .ok I q.1 ∧ Ins (fun b => w.heap.size + 2 ≤ b) (fun b => w.heap.size + 2 ≤ b) W (.agg #[.int .i64 a, .int .i64 bb, .slice A0 m0 C0, .slice A1 m1 C1, .int .i64 zz, .slice A2 m2 C2]) I) ∨ (q.2 ≠ 0 ∧ instR L = .no q.1 q.2))
theorem Mid.next {L : List Tk} {w : World} {xb : Nat} {q : Nat × Nat} {W W' : World} (h : Mid L w xb q W) (hb : Below W.heap.size W W') : Mid L w xb q W' := by
  obtain ⟨a, bb, A0, m0, C0, A1, m1, C1, zz, A2, m2, C2, h1, h2⟩ := h
  refine ⟨a, bb, A0, m0, C0, A1, m1, C1, zz, A2, m2, C2, h1.next hb, ?_⟩
  rcases h2 with ⟨h2, I, h3, h4⟩ | h2
  · exact .inl ⟨h2, I, h3, h4.next hb⟩
  · exact .inr h2
theorem Mid.part {L : List Tk} {w w1 w2 : World} {xb : Nat} {q : Nat × Nat} {R : Rd In} {a bb zz : Int} {A0 A1 A2 : Option Addr} {m0 C0 m1 C1 m2 C2 : Nat} (hR : instR L = R)
    (hX : IBlk xb 36 (.int .i64 0) (.int .i64 0) (.slice none 0 0) (.slice none 0 0) (.int .i64 0) (.slice none 0 0) w2) (h1 : w.heap.size + 2 ≤ w1.heap.size) (h2 : xb < w1.heap.size)
    (hr : (q.2 = 0 ∧ ∃ I, R = .ok I q.1 ∧ Ins (fun b => w1.heap.size ≤ b) (fun b => w1.heap.size ≤ b) w2 (.agg #[.int .i64 a, .int .i64 bb, .slice A0 m0 C0, .slice A1 m1 C1, .int .i64 zz, .slice A2 m2 C2]) I) ∨ (q.2 ≠ 0 ∧ R = .no q.1 q.2)) :
    Mid L w xb q (set6 xb (.int .i64 a) (.int .i64 bb) (.slice A0 m0 C0) (.slice A1 m1 C1) (.int .i64 zz) (.slice A2 m2 C2) w2) := by
  refine ⟨a, bb, A0, m0, C0, A1, m1, C1, zz, A2, m2, C2, hX.set6, ?_⟩
  rw [hR]
  rcases hr with ⟨h3, I, h4, h5⟩ | h3
  · exact .inl ⟨h3, I, h4, (h5.held (held_set6 (b := xb) (v0 := .int .i64 a) (v1 := .int .i64 bb) (v2 := .slice A0 m0 C0) (v3 := .slice A1 m1 C1) (v4 := .int .i64 zz) (v5 := .slice A2 m2 C2) fun b hb => by omega) (held_set6 (b := xb) (v0 := .int .i64 a) (v1 := .int .i64 bb) (v2 := .slice A0 m0 C0) (v3 := .slice A1 m1 C1) (v4 := .int .i64 zz) (v5 := .slice A2 m2 C2) fun b hb => by omega)).imp (fun b hb => by omega) (fun b hb => by omega)⟩
  · exact .inr h3
theorem isW_other {L : List Tk} {t u : List UInt8} {k : Nat} (h : isW L t k = true) (hne : t ≠ u) : isW L u k = false := by
  unfold isW at h ⊢
  cases hx : L[k]? with
  | none => rfl
  | some x =>
    rw [hx] at h
    simp only [Bool.and_eq_true, decide_eq_true_eq] at h
    simp only [Bool.and_eq_false_iff, decide_eq_false_iff_not]
    exact .inr (fun e => hne (h.2.symm.trans e))
end Go.Proofs.YtbadingdklenhaaGreatDoor

/-
  The memory of the region in which the document's Parse returns what has failed: it draws its order; its two stores are into its results.
-/
namespace Go.Proofs.YtbadingdklenhaaGreatDoor
set_option maxRecDepth 100000
open Go.RowKit

/-- Two stores into the variable behind. -/
def set2 (b : Nat) (u0 u1 : Value) (w : World) : World := (w.setCell ⟨b, 0, none⟩ u0).setCell ⟨b, 1, none⟩ u1
/-- The memory: what stores have come up: e 28: the instance, e 29: the place. -/
structure RM (rb : Nat) (l c : Int) (W0 : World) (e : Nat → Bool) (wr : World) : Prop where
  mk ::
  a : e 28 = false → wr = W0
  b : e 28 = true → e 29 = false → wr = set6 rb (.int .i64 0) (.int .i64 0) (.slice none 0 0) (.slice none 0 0) (.int .i64 0) (.slice none 0 0) W0
  c : e 29 = true → wr = set2 (rb + 1) (.int .i64 l) (.int .i64 c) (set6 rb (.int .i64 0) (.int .i64 0) (.slice none 0 0) (.slice none 0 0) (.int .i64 0) (.slice none 0 0) W0)
  d : e 29 = true → e 28 = true
namespace RM
variable {rb : Nat} {l c : Int} {W0 wr : World} {e : Nat → Bool}
theorem start (rb : Nat) (l c : Int) (W0 : World) : RM rb l c W0 (fun _ => false) W0 := ⟨fun _ => rfl, (fun h => by cases h), (fun h => by cases h), (fun h => by cases h)⟩
theorem mark (h : RM rb l c W0 e wr) {i : Nat} (h1 : (28 : Nat) ≠ i) (h2 : (29 : Nat) ≠ i) : RM rb l c W0 (upd e i true) wr := by
  have u1 := upd_ne e true h1
  have u2 := upd_ne e true h2
  refine ⟨fun q => h.a (by rw [← u1]; exact q), fun q r => h.b (by rw [← u1]; exact q) (by rw [← u2]; exact r), fun q => h.c (by rw [← u2]; exact q), fun q => ?_⟩
  rw [u1]
  exact h.d (by rw [← u2]; exact q)
theorem no29 (h : RM rb l c W0 e wr) (he : e 28 = false) : e 29 = false := by
  cases hh : e 29 with
  | false => rfl
  | true => rw [h.d hh] at he; cases he
theorem st1 (h : RM rb l c W0 e wr) (he : e 28 = false) : RM rb l c W0 (upd e 28 true) (set6 rb (.int .i64 0) (.int .i64 0) (.slice none 0 0) (.slice none 0 0) (.int .i64 0) (.slice none 0 0) wr) := by
  have h9 : upd e 28 true 29 = false := h.no29 he
  refine ⟨fun q => (by rw [upd_at] at q; cases q), fun _ _ => by rw [h.a he], fun q => (by rw [h9] at q; cases q), fun q => (by rw [h9] at q; cases q)⟩
theorem st2 (h : RM rb l c W0 e wr) (h8 : e 28 = true) (h9 : e 29 = false) : RM rb l c W0 (upd e 29 true) (set2 (rb + 1) (.int .i64 l) (.int .i64 c) wr) := by
  have u8 : upd e 29 true 28 = true := h8
  refine ⟨fun q => (by rw [u8] at q; cases q), fun _ q => (by rw [upd_at] at q; cases q), fun _ => by rw [h.b h8 h9], fun _ => u8⟩
theorem row1 (h : RM rb l c W0 e wr) (h9 : e 29 = false) {x : Nat} {r : Obj} (hr : W0.heap[x]? = some r) (hx : x ≠ rb) : wr.heap[x]? = some r := by
  cases h8 : e 28 with
  | false => rw [h.a h8]; exact hr
  | true =>
    rw [h.b h8 h9]
    have hl : x < W0.heap.size := (Array.getElem?_eq_some_iff.1 hr).1
    exact ((held_set6 (b := rb) (v0 := .int .i64 0) (v1 := .int .i64 0) (v2 := .slice none 0 0) (v3 := .slice none 0 0) (v4 := .int .i64 0) (v5 := .slice none 0 0) (w := W0) (F := fun q => q = x) (fun q hq => by omega)).2 _ rfl hl).trans hr
theorem row (h : RM rb l c W0 e wr) {x : Nat} {r : Obj} (hr : W0.heap[x]? = some r) (hx : x ≠ rb) (hy : x ≠ rb + 1) : wr.heap[x]? = some r := by
  cases h9 : e 29 with
  | false => exact h.row1 h9 hr hx
  | true =>
    rw [h.c h9]
    have hl : x < W0.heap.size := (Array.getElem?_eq_some_iff.1 hr).1
    unfold set2
    rw [Below.heap_setCell _ _ _ _ (show x ≠ rb + 1 from hy), Below.heap_setCell _ _ _ _ (show x ≠ rb + 1 from hy)]
    exact ((held_set6 (b := rb) (v0 := .int .i64 0) (v1 := .int .i64 0) (v2 := .slice none 0 0) (v3 := .slice none 0 0) (v4 := .int .i64 0) (v5 := .slice none 0 0) (w := W0) (F := fun q => q = x) (fun q hq => by omega)).2 _ rfl hl).trans hr
theorem cell (h : RM rb l c W0 e wr) {x o : Nat} {v : Value} (hc : W0.cell? ⟨x, o, none⟩ = some v) (hx : x ≠ rb) (hy : x ≠ rb + 1) : wr.cell? ⟨x, o, none⟩ = some v := by
  have hl := cell_lt hc
  have hr := h.row (Array.getElem?_eq_getElem hl) hx hy
  rw [← Array.getElem?_eq_getElem hl] at hr
  exact (World.cell?_of_block (a := ⟨x, o, none⟩) hr).trans hc
theorem res (h : RM rb l c W0 e wr) (h8 : e 28 = false) {x : Nat} {r : Obj} (hr : W0.heap[x]? = some r) : wr.heap[x]? = some r := by rw [h.a h8]; exact hr
end RM
theorem RM.fin {sb g C : Nat} {L : List Tk} {q : Nat × Nat} {w W0 wr : World} {l c : Int} {e : Nat → Bool} (h : RM w.heap.size l c W0 e wr) (he : e 29 = true) (hF : Fr sb g C L q w W0) :
    IBlk w.heap.size 36 (.int .i64 0) (.int .i64 0) (.slice none 0 0) (.slice none 0 0) (.int .i64 0) (.slice none 0 0) wr ∧ (wr.cell? ⟨w.heap.size + 1, 0, none⟩ = some (.int .i64 l) ∧ wr.cell? ⟨w.heap.size + 1, 1, none⟩ = some (.int .i64 c)) ∧
    Ins (fun q => w.heap.size ≤ q) (fun q => w.heap.size ≤ q) wr (.agg #[.int .i64 0, .int .i64 0, .slice none 0 0, .slice none 0 0, .int .i64 0, .slice none 0 0]) zIn ∧ Below w.heap.size w wr := by
  have hPP := hF.pos
  have hl1 : w.heap.size + 1 < W0.heap.size := lt_of_block hPP
  have HI := ins_zero (fun q => w.heap.size + 2 ≤ q) (fun q => w.heap.size + 2 ≤ q) W0
  have q0 := hF.res.set6 (v0 := .int .i64 0) (v1 := .int .i64 0) (v2 := .slice none 0 0) (v3 := .slice none 0 0) (v4 := .int .i64 0) (v5 := .slice none 0 0)
  have q1 := ((held_set6 (b := w.heap.size) (v0 := .int .i64 0) (v1 := .int .i64 0) (v2 := .slice none 0 0) (v3 := .slice none 0 0) (v4 := .int .i64 0) (v5 := .slice none 0 0) (w := W0) (F := fun q => q = w.heap.size + 1) (fun q hq => by omega)).2 _ rfl (by omega)).trans hPP
  have q2 := heap_setCell_same _ (w.heap.size + 1) 1 _ _ (.int .i64 c) (heap_setCell_same _ (w.heap.size + 1) 0 _ _ (.int .i64 l) q1)
  have q3 := (q0.other (a := ⟨w.heap.size + 1, 0, none⟩) (show w.heap.size ≠ w.heap.size + 1 by omega) (.int .i64 l)).other (a := ⟨w.heap.size + 1, 1, none⟩) (show w.heap.size ≠ w.heap.size + 1 by omega) (.int .i64 c)
  have q4 := end8 (v0 := .int .i64 0) (v1 := .int .i64 0) (v2 := .slice none 0 0) (v3 := .slice none 0 0) (v4 := .int .i64 0) (v5 := .slice none 0 0) (u0 := .int .i64 l) (u1 := .int .i64 c) HI hF.be (by omega)
  rw [h.c he]
  unfold set2
  refine ⟨q3, ⟨?_, ?_⟩, q4.1, q4.2⟩ <;> (unfold World.cell?; simp only [q2]; rfl)
end Go.Proofs.YtbadingdklenhaaGreatDoor
