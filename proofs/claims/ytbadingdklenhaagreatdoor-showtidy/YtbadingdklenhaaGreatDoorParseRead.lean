/-
  What parse's read does: it reads an instance and the End; a fault of the text ends here.
-/
import Derived.Test.YtbadingdklenhaaGreatDoorParseInst
import Derived.Tactics
import Derived.Tactics2
import Derived.Defers
import Derived.Recover
import Derived.Laws.Pointers
namespace Go.Proofs.YtbadingdklenhaaGreatDoor
set_option maxRecDepth 100000
open Go.RowKit

theorem catch_idle (p q s : Addr) (w : World) :
    CallsD Tryz.prog 65 #[.pointer (some p), .pointer (some q), .pointer (some s)] .returning w fun e u' w' => e = .returned (.tuple #[]) ∧ u' = .returning ∧ w' = w := by
  refine callsD_of_wpS Tryz.func65 rfl fun c₀ cs hu => ?_
  apply wpS_seq
  apply wpS_region
  simp [wpOpsS, go_sem, recoverD, hu, Tryz.ntmps65, Exit.thenS]
  refine wpS_of_wp ?_
  go_wp2
  cases c₀
  simp_all [bodyPostS, results, Tryz.results65]
theorem below_set6 {b : Nat} {v0 v1 v2 v3 v4 v5 : Value} {w : World} : Below b w (set6 b v0 v1 v2 v3 v4 v5 w) := by
  have h0 := Below.setCell (Below.refl b w) (p := ⟨b, 0, none⟩) (Nat.le_refl b) v0
  have h1 := Below.setCell h0 (p := ⟨b, 1, none⟩) (Nat.le_refl b) v1
  have h2 := Below.setCell h1 (p := ⟨b, 2, none⟩) (Nat.le_refl b) v2
  have h3 := Below.setCell h2 (p := ⟨b, 3, none⟩) (Nat.le_refl b) v3
  have h4 := Below.setCell h3 (p := ⟨b, 4, none⟩) (Nat.le_refl b) v4
  have h5 := Below.setCell h4 (p := ⟨b, 5, none⟩) (Nat.le_refl b) v5
  unfold set6
  exact h5
/-- What a fault leaves: no instance, its place and error. -/
def Left (N : Nat) (v0 v1 v2 v3 v4 v5 line col er : Value) (w W : World) : Prop := IBlk N 33 v0 v1 v2 v3 v4 v5 W ∧ W.heap[N + 1]? = some (.cells #[line, col] 52 (0, 0)) ∧ W.heap[N + 2]? = some (.cells #[er] 39 (0, 0)) ∧ Below N w W
section
variable {N : Nat} {line col er k0 c0 i0 s0 z0 t0 p0 p1 e0 v0 v1 v2 v3 v4 v5 : Value} {w X : World}
theorem Left.inst (hI : IBlk N 33 k0 c0 i0 s0 z0 t0 w) (hP : w.heap[N + 1]? = some (.cells #[p0, p1] 52 (0, 0))) (hE : w.heap[N + 2]? = some (.cells #[e0] 39 (0, 0))) : Left N v0 v1 v2 v3 v4 v5 p0 p1 e0 w (set6 N v0 v1 v2 v3 v4 v5 w) := by
  have hN2 : N + 2 < w.heap.size := lt_of_block hE
  exact ⟨hI.set6, ((held_set6 (b := N) (F := fun q => q = N + 1) (fun q hq => by omega)).2 _ rfl (by omega)).trans hP, ((held_set6 (b := N) (F := fun q => q = N + 2) (fun q hq => by omega)).2 _ rfl (by omega)).trans hE, below_set6⟩
theorem Left.pos0 (h : Left N v0 v1 v2 v3 v4 v5 p0 p1 e0 w X) : Left N v0 v1 v2 v3 v4 v5 line p1 e0 w (X.setCell ⟨N + 1, 0, none⟩ line) :=
  ⟨h.1.other (a := ⟨N + 1, 0, none⟩) (show N ≠ N + 1 by omega) _, heap_setCell_same _ (N + 1) 0 _ _ line h.2.1, (Below.heap_setCell _ ⟨N + 1, 0, none⟩ _ _ (show N + 2 ≠ N + 1 by omega)).trans h.2.2.1, h.2.2.2.setCell (p := ⟨N + 1, 0, none⟩) (show N ≤ N + 1 by omega) _⟩
theorem Left.pos1 (h : Left N v0 v1 v2 v3 v4 v5 p0 p1 e0 w X) : Left N v0 v1 v2 v3 v4 v5 p0 col e0 w (X.setCell ⟨N + 1, 1, none⟩ col) :=
  ⟨h.1.other (a := ⟨N + 1, 1, none⟩) (show N ≠ N + 1 by omega) _, heap_setCell_same _ (N + 1) 1 _ _ col h.2.1, (Below.heap_setCell _ ⟨N + 1, 1, none⟩ _ _ (show N + 2 ≠ N + 1 by omega)).trans h.2.2.1, h.2.2.2.setCell (p := ⟨N + 1, 1, none⟩) (show N ≤ N + 1 by omega) _⟩
theorem Left.err (h : Left N v0 v1 v2 v3 v4 v5 p0 p1 e0 w X) : Left N v0 v1 v2 v3 v4 v5 p0 p1 er w (X.setCell ⟨N + 2, 0, none⟩ er) :=
  ⟨h.1.other (a := ⟨N + 2, 0, none⟩) (show N ≠ N + 2 by omega) _, (Below.heap_setCell _ ⟨N + 2, 0, none⟩ _ _ (show N + 1 ≠ N + 2 by omega)).trans h.2.1, heap_setCell_same _ (N + 2) 0 _ _ er h.2.2.1, h.2.2.2.setCell (p := ⟨N + 2, 0, none⟩) (show N ≤ N + 2 by omega) _⟩
theorem Left.next (h : Left N v0 v1 v2 v3 v4 v5 p0 p1 e0 w X) {Y : World} (hb : Below X.heap.size X Y) : Left N v0 v1 v2 v3 v4 v5 p0 p1 e0 w Y :=
  ⟨h.1.next hb, (hb.block _ (lt_of_block h.2.1)).trans h.2.1, (hb.block _ (lt_of_block h.2.2.1)).trans h.2.2.1, h.2.2.2.trans (hb.mono (Nat.le_of_lt h.1.lt))⟩
theorem Left.kb {r : Nat} (h : Left N v0 v1 v2 v3 v4 v5 p0 p1 e0 w X) {Y : World} (kb : Kb r X Y) (hr : N + 2 < r) : Left N v0 v1 v2 v3 v4 v5 p0 p1 e0 w Y :=
  ⟨h.1.kb kb (by omega), (kb.block _ (lt_of_block h.2.1) (by omega)).trans h.2.1, (kb.block _ (lt_of_block h.2.2.1) (by omega)).trans h.2.2.1, h.2.2.2.trans (kb.below (by omega) (Nat.le_of_lt h.1.lt))⟩
theorem Left.again (h : Left N v0 v1 v2 v3 v4 v5 p0 p1 e0 w X) (u0 u1 u2 u3 u4 u5 : Value) : Left N u0 u1 u2 u3 u4 u5 p0 p1 e0 w (set6 N u0 u1 u2 u3 u4 u5 X) := by
  have q := Left.inst (v0 := u0) (v1 := u1) (v2 := u2) (v3 := u3) (v4 := u4) (v5 := u5) h.1 h.2.1 h.2.2.1
  exact ⟨q.1, q.2.1, q.2.2.1, h.2.2.2.trans q.2.2.2⟩
theorem Left.free (h : Left N v0 v1 v2 v3 v4 v5 p0 p1 e0 w X) : X.frozen? ⟨N + 1, 0, none⟩ = false ∧ X.frozen? ⟨N + 1, 1, none⟩ = false ∧ X.frozen? ⟨N + 1 + 1, 0, none⟩ = false :=
  ⟨frozen_of_row _ _ _ _ _ h.2.1, frozen_of_row _ _ _ _ _ h.2.1, frozen_of_row _ _ _ _ _ h.2.2.1⟩
theorem Left.cells (h : Left N v0 v1 v2 v3 v4 v5 p0 p1 e0 w X) : X.cell? ⟨N + 1, 0, none⟩ = some p0 ∧ X.cell? ⟨N + 1, 1, none⟩ = some p1 ∧ X.cell? ⟨N + 1 + 1, 0, none⟩ = some e0 := by
  have h1 := h.2.1
  have h2 : X.heap[N + 1 + 1]? = some (.cells #[e0] 39 (0, 0)) := h.2.2.1
  refine ⟨?_, ?_, ?_⟩ <;> (unfold World.cell?; first | (simp only [h1]; rfl) | (simp only [h2]; rfl))
theorem Left.drew (h : Left N v0 v1 v2 v3 v4 v5 p0 p1 e0 w X) : Left N v0 v1 v2 v3 v4 v5 p0 p1 e0 w X.drew := h.next (Below.refl _ _).drew
theorem Left.alloc (h : Left N v0 v1 v2 v3 v4 v5 p0 p1 e0 w X) (o : Obj) : Left N v0 v1 v2 v3 v4 v5 p0 p1 e0 w (X.alloc o) := h.next (new_below _ _)
end
set_option maxHeartbeats 2000000 in
theorem catch_fault (N : Nat) (line col er : Int) (k0 c0 i0 s0 z0 t0 p0 p1 e0 : Value) (older : List PanicEntry) (w : World) (hI : IBlk N 33 k0 c0 i0 s0 z0 t0 w) (hP : w.heap[N + 1]? = some (.cells #[p0, p1] 52 (0, 0))) (hE : w.heap[N + 2]? = some (.cells #[e0] 39 (0, 0))) :
    CallsD Tryz.prog 65 #[.pointer (some ⟨N, 0, none⟩), .pointer (some ⟨N + 1, 0, none⟩), .pointer (some ⟨N + 2, 0, none⟩)] (.panicking ({ v := .iface 127 (.agg #[.int .i64 line, .int .i64 col, .int .i64 er]), recovered := false } :: older)) w fun e u' w' =>
      e = .returned (.tuple #[]) ∧ u' = .panicking ({ v := .iface 127 (.agg #[.int .i64 line, .int .i64 col, .int .i64 er]), recovered := true } :: older) ∧
      Left N (.int .i64 0) (.int .i64 0) (.slice none 0 0) (.slice none 0 0) (.int .i64 0) (.slice none 0 0) (.int .i64 line) (.int .i64 col) (.int .i64 er) w w' := by
  have hta : ∀ W, (Instr.typeAssert (.iface 127 (.agg #[.int .i64 line, .int .i64 col, .int .i64 er])) 20 127 false).run Tryz.prog W = .ok (.agg #[.int .i64 line, .int .i64 col, .int .i64 er]) W := fun _ => by kernel_rfl
  obtain ⟨x0, x1, x2, x3, x4, x5⟩ := hI.box
  have f := hI.free
  have f0 := f 0
  have f1 := f 1
  have f2 := f 2
  have f3 := f 3
  have f4 := f 4
  have f5 := f 5
  have y0 : w.cell? ⟨N + 1, 0, none⟩ = some p0 := by unfold World.cell?; simp only [hP]; rfl
  have y1 : w.cell? ⟨N + 1, 1, none⟩ = some p1 := by unfold World.cell?; simp only [hP]; rfl
  have y2 : w.cell? ⟨N + 2, 0, none⟩ = some e0 := by unfold World.cell?; simp only [hE]; rfl
  have g0 : w.frozen? ⟨N + 1, 0, none⟩ = false := frozen_of_row w _ _ _ _ hP
  have g1 : w.frozen? ⟨N + 1, 1, none⟩ = false := frozen_of_row w _ _ _ _ hP
  have g2 : w.frozen? ⟨N + 2, 0, none⟩ = false := frozen_of_row w _ _ _ _ hE
  have hN2 : N + 2 < w.heap.size := lt_of_block hE
  have hN1 : N + 1 < w.heap.size := by omega
  have hN0 : N < w.heap.size := by omega
  have HL := Lib.hid ((((((Left.inst (v0 := .int .i64 0) (v1 := .int .i64 0) (v2 := .slice none 0 0) (v3 := .slice none 0 0) (v4 := .int .i64 0) (v5 := .slice none 0 0) hI hP hE).pos0 (line := .int .i64 line)).pos1 (col := .int .i64 col)).err (er := .int .i64 er)).alloc (.cells #[.int .i64 line, .int .i64 col, .int .i64 er] 127)).drew)
  unfold set6 at HL
  clear f hI hP hE
  refine callsD_of_wpS Tryz.func65 rfl fun c₀ cs hu => ?_
  apply wpS_seq
  apply wpS_region
  simp [wpOpsS, go_sem, recoverD, hu, Tryz.ntmps65, Exit.thenS]
  refine wpS_of_wp ?_
  go_wp2
  go_region
  all_goals go_wp2
  all_goals
    refine ⟨rfl, _, rfl, .tuple #[], by simp [results, Tryz.results65, go_sem], rfl, rfl, ?_⟩
    exact HL.out

theorem ins_zero (F G : Nat → Prop) (w : World) : Ins F G w (.agg #[.int .i64 0, .int .i64 0, .slice none 0 0, .slice none 0 0, .int .i64 0, .slice none 0 0]) zIn :=
  ⟨⟨.slice none 0 0, .slice none 0 0, .slice none 0 0, [], [], rfl, Lies.nil _ _ _, ⟨rfl, Lies.nil _ _ _, fun i r u a => by simp [zIn] at a⟩, ⟨rfl, Lies.nil _ _ _, fun i r u a => by simp [zIn] at a⟩⟩⟩
/-- What read and Parse give. -/
def IsPs (p : Ps) (w : World) (e : Ending) (w' : World) : Prop := ∃ v, e = .returned (.tuple #[v, .agg #[.int .i64 (p.line : Nat), .int .i64 (p.col : Nat)], .int .i64 (p.err : Nat)]) ∧ Ins (fun q => w.heap.size ≤ q) (fun q => w.heap.size ≤ q) w' v p.inst ∧ Below w.heap.size w w'
set_option maxHeartbeats 4000000 in
theorem readP_any (g C : Nat) (L : List Tk) (hE : EndL L) (hN : L.length ≤ 2000000) (hC : L.length ≤ C) (hCm : C ≤ maxLen) (w : World) (hT : ToksAt w g L) (hW : WordsOk w) :
    Calls Tryz.prog 34 #[.slice (some ⟨g, 0, none⟩) L.length C] w (IsPs (psOf L (wholeR L)) w) := by
  have hmf : ∀ (fn : Fn) (first cap : Array Value) (w : World), (Instr.makeFunc fn first cap).run Tryz.prog w = .ok (.func fn first cap) w := fun _ _ _ _ => rfl
  have hg0 := hT.1
  have hgw : 0 < w.heap.size := cell_lt (hW 0 (by omega))
  obtain ⟨W4, hW4⟩ : ∃ q, q = (((w.alloc (.cells #[.int .i64 0, .int .i64 0, .slice none 0 0, .slice none 0 0, .int .i64 0, .slice none 0 0] 33)).alloc (.cells #[.int .i64 0, .int .i64 0] 52)).alloc (.cells #[.int .i64 0] 39)).alloc (.cells #[.slice (some ⟨g, 0, none⟩) L.length C] 129) := ⟨_, rfl⟩
  have hsz : W4.heap.size = w.heap.size + 4 := by rw [hW4]; simp
  have hb4 : Below w.heap.size w W4 := by
    rw [hW4]
    exact (((new_below w _).alloc (by simp) _).alloc (by simp; omega) _).alloc (by simp; omega) _
  have hI4 : IBlk w.heap.size 33 (.int .i64 0) (.int .i64 0) (.slice none 0 0) (.slice none 0 0) (.int .i64 0) (.slice none 0 0) W4 := by
    rw [hW4]
    exact (((iblk_new w _ _ _ _ _ _ _).next (new_below _ _)).next (new_below _ _)).next (new_below _ _)
  have hP4 : W4.heap[w.heap.size + 1]? = some (.cells #[.int .i64 0, .int .i64 0] 52 (0, 0)) := by
    rw [hW4, Below.heap_alloc _ _ _ (by simp), Below.heap_alloc _ _ _ (by simp)]
    have := heap_alloc_new (w.alloc (.cells #[.int .i64 0, .int .i64 0, .slice none 0 0, .slice none 0 0, .int .i64 0, .slice none 0 0] 33)) (.cells #[.int .i64 0, .int .i64 0] 52)
    rw [World.size_alloc] at this
    exact this
  have hE4 : W4.heap[w.heap.size + 2]? = some (.cells #[.int .i64 0] 39 (0, 0)) := by
    rw [hW4, Below.heap_alloc _ _ _ (by simp)]
    have := heap_alloc_new ((w.alloc (.cells #[.int .i64 0, .int .i64 0, .slice none 0 0, .slice none 0 0, .int .i64 0, .slice none 0 0] 33)).alloc (.cells #[.int .i64 0, .int .i64 0] 52)) (.cells #[.int .i64 0] 39)
    rw [World.size_alloc, World.size_alloc] at this
    exact this
  have hR4 : W4.heap[w.heap.size + 3]? = some (.cells #[.slice (some ⟨g, 0, none⟩) L.length C] 129 (0, 0)) := by
    rw [hW4]
    have := heap_alloc_new (((w.alloc (.cells #[.int .i64 0, .int .i64 0, .slice none 0 0, .slice none 0 0, .int .i64 0, .slice none 0 0] 33)).alloc (.cells #[.int .i64 0, .int .i64 0] 52)).alloc (.cells #[.int .i64 0] 39)) (.cells #[.slice (some ⟨g, 0, none⟩) L.length C] 129)
    rw [World.size_alloc, World.size_alloc, World.size_alloc] at this
    exact this
  have hS : RdS (w.heap.size + 3) g C L 0 W4 := by
    refine ⟨?_, frozen_of_row W4 _ _ _ _ hR4, hT.next hb4, by omega, hC, hCm, hE.pos⟩
    unfold World.cell?
    simp only [hR4]
    simp
  have IN := instance_any (w.heap.size + 3) g C L hE hN W4 hS (hW.next hb4) (by omega)
  have e4 : ((((w.heap.size + 1) + 1) + 1) : Nat) = w.heap.size + 3 := by omega
  cases hi : instR L with
  | no j er =>
    have e0 : wholeR L = .no j er := by unfold wholeR; rw [hi]; rfl
    obtain ⟨hj, _⟩ := wholeR_no hE e0
    obtain ⟨x, hx⟩ := hE.at hj
    rw [hi, tells_no] at IN
    unfold Dies at IN
    rw [fltV_at hx] at IN
    have ep : psOf L (wholeR L) = ⟨zIn, x.line, x.col, er⟩ := by rw [e0]; simp [psOf, hx]
    rw [ep]
    clear e0 ep hi hx hS hR4
    go_enter_defers Tryz.func34, Tryz.ntmps34
    go_wp2_with fail
    rw [← hW4]
    with_reducible refine IN.mono ?_
    rintro e w5 ⟨rfl, kb⟩
    have hI5 := hI4.kb kb (by omega)
    have hP5 := (kb.block (w.heap.size + 1) (by omega) (by omega)).trans hP4
    have hE5 := (kb.block (w.heap.size + 2) (by omega) (by omega)).trans hE4
    have CF := catch_fault w.heap.size x.line x.col er _ _ _ _ _ _ _ _ _ [] w5 hI5 hP5 hE5
    have HB := Lib.hid (hb4.trans (kb.below (B := w.heap.size) (by omega) (by omega)))
    clear hI4 hP4 hE4 hI5 hP5 hE5 kb hW4 hb4
    go_wp2
    refine leaves_cons (f := 65) (args := #[.pointer (some ⟨w.heap.size, 0, none⟩), .pointer (some ⟨w.heap.size + 1, 0, none⟩), .pointer (some ⟨w.heap.size + 1 + 1, 0, none⟩)]) (by simp) (by simp [go_sem]) ?_
    refine CF.mono ?_
    rintro e u' w6 ⟨rfl, rfl, HL⟩
    obtain ⟨x0, x1, x2, x3, x4, x5⟩ := HL.1.box
    obtain ⟨y0, y1, y2⟩ := HL.cells
    simp [Leaves, settle, results, Tryz.results34, go_sem, x0, x1, x2, x3, x4, x5, y0, y1, y2]
    exact ⟨_, rfl, ins_zero _ _ _, HB.out.trans HL.2.2.2⟩
  | ok I k =>
    rw [hi, tells_ok] at IN
    have hfit := instR_fit hE
    rw [hi] at hfit
    obtain ⟨x, hx⟩ := hE.at hfit.2
    have TO := fun W hW => take_okI (w.heap.size + 3) g C L k 3 3 rfl W hW x hx
    have TN := fun W hW => take_noI (w.heap.size + 3) g C L k 3 3 rfl W hW x hx
    have e1 : wholeR L = if x.kind = 3 then .ok I (k + 1) else .no k 4 := by
      unfold wholeR
      rw [hi]
      show (tokR L 3 k).nx _ = _
      unfold tokR
      rw [hx]
      simp only
      split <;> rfl
    have hF4 := fltV_at hx 4
    have hp4 : psOf L (.no k 4) = ⟨zIn, x.line, x.col, 4⟩ := by simp [psOf, hx]
    clear hi hfit hx hS hR4
    have fin : ∀ w5, Kb (w.heap.size + 3) W4 w5 → Left w.heap.size (.int .i64 0) (.int .i64 0) (.slice none 0 0) (.slice none 0 0) (.int .i64 0) (.slice none 0 0) (.int .i64 0) (.int .i64 0) (.int .i64 0) w w5 := fun w5 kb =>
      Left.kb (⟨hI4, hP4, hE4, hb4⟩ : Left w.heap.size (.int .i64 0) (.int .i64 0) (.slice none 0 0) (.slice none 0 0) (.int .i64 0) (.slice none 0 0) (.int .i64 0) (.int .i64 0) (.int .i64 0) w W4) kb (by omega)
    by_cases hk3 : x.kind = 3
    · rw [e1, if_pos hk3]
      have TK := fun W hW => TO W hW hk3
      clear TO TN e1 hF4 hp4 hk3 hI4 hP4 hE4
      go_enter_defers Tryz.func34, Tryz.ntmps34
      go_wp2_with fail
      rw [← hW4]
      with_reducible refine IN.mono ?_
      rintro e w5 ⟨v, rfl, hIn, hrd, kb⟩
      obtain ⟨A0, n0, C0, A1, n1, C1, A2, n2, C2, rfl⟩ := InV hIn
      have hL5 := fin w5 kb
      obtain ⟨x0, x1, x2, x3, x4, x5⟩ := hL5.1.box
      have f := hL5.1.free
      have f0 := f 0
      have f1 := f 1
      have f2 := f 2
      have f3 := f 3
      have f4 := f 4
      have f5 := f 5
      have HL6 := Lib.hid (hL5.again (.int .i64 I.kind) (.int .i64 I.cap) (.slice A0 n0 C0) (.slice A1 n1 C1) (.int .i64 I.size) (.slice A2 n2 C2))
      have HR6 := Lib.hid (RdS.set6 (b := w.heap.size) (v0 := .int .i64 I.kind) (v1 := .int .i64 I.cap) (v2 := .slice A0 n0 C0) (v3 := .slice A1 n1 C1) (v4 := .int .i64 I.size) (v5 := .slice A2 n2 C2) hrd (by omega) (by omega))
      have HI6 := Lib.hid (hIn.held (held_set6 (b := w.heap.size) (v0 := .int .i64 I.kind) (v1 := .int .i64 I.cap) (v2 := .slice A0 n0 C0) (v3 := .slice A1 n1 C1) (v4 := .int .i64 I.size) (v5 := .slice A2 n2 C2) fun q hq => by omega) (held_set6 (b := w.heap.size) (v0 := .int .i64 I.kind) (v1 := .int .i64 I.cap) (v2 := .slice A0 n0 C0) (v3 := .slice A1 n1 C1) (v4 := .int .i64 I.size) (v5 := .slice A2 n2 C2) fun q hq => by omega))
      clear f hL5 hrd hIn kb fin hW4 hb4 IN
      unfold set6 at HL6 HR6 HI6
      go_wp2_with fail
      with_reducible refine (TK _ HR6.out).mono ?_
      rintro e w7 ⟨rfl, _, kb7⟩
      have hL7 := HL6.out.kb kb7 (by omega)
      have hI7 := HI6.out.held (kb7.held fun q hq => by omega) (kb7.held fun q hq => by omega)
      obtain ⟨x0, x1, x2, x3, x4, x5⟩ := hL7.1.box
      have f := hL7.1.free
      have f0 := f 0
      have f1 := f 1
      have f2 := f 2
      have f3 := f 3
      have f4 := f 4
      have f5 := f 5
      obtain ⟨y0, y1, y2⟩ := hL7.cells
      obtain ⟨g0, g1, g2⟩ := hL7.free
      have hlt := lt_of_block hL7.2.2.1
      have hlt0 : w.heap.size < w7.heap.size := by omega
      have hlt1 : w.heap.size + 1 < w7.heap.size := by omega
      have hL8 := (((hL7.again (.int .i64 I.kind) (.int .i64 I.cap) (.slice A0 n0 C0) (.slice A1 n1 C1) (.int .i64 I.size) (.slice A2 n2 C2)).pos0 (line := .int .i64 0)).pos1 (col := .int .i64 0)).err (er := .int .i64 0)
      have hI8 := (((hI7.held (held_set6 (b := w.heap.size) (v0 := .int .i64 I.kind) (v1 := .int .i64 I.cap) (v2 := .slice A0 n0 C0) (v3 := .slice A1 n1 C1) (v4 := .int .i64 I.size) (v5 := .slice A2 n2 C2) fun q hq => by omega) (held_set6 (b := w.heap.size) (v0 := .int .i64 I.kind) (v1 := .int .i64 I.cap) (v2 := .slice A0 n0 C0) (v3 := .slice A1 n1 C1) (v4 := .int .i64 I.size) (v5 := .slice A2 n2 C2) fun q hq => by omega)).held
        (set_held (a := ⟨w.heap.size + 1, 0, none⟩) (v := .int .i64 0) fun q hq => by show q ≠ w.heap.size + 1; omega) (set_held (a := ⟨w.heap.size + 1, 0, none⟩) (v := .int .i64 0) fun q hq => by show q ≠ w.heap.size + 1; omega)).held
        (set_held (a := ⟨w.heap.size + 1, 1, none⟩) (v := .int .i64 0) fun q hq => by show q ≠ w.heap.size + 1; omega) (set_held (a := ⟨w.heap.size + 1, 1, none⟩) (v := .int .i64 0) fun q hq => by show q ≠ w.heap.size + 1; omega)).held
        (set_held (a := ⟨w.heap.size + 2, 0, none⟩) (v := .int .i64 0) fun q hq => by show q ≠ w.heap.size + 2; omega) (set_held (a := ⟨w.heap.size + 2, 0, none⟩) (v := .int .i64 0) fun q hq => by show q ≠ w.heap.size + 2; omega)
      have HL8 := Lib.hid hL8
      have HI8 := Lib.hid hI8
      unfold set6 at HL8 HI8
      clear f hL7 hI7 hL8 hI8 kb7 HL6 HR6 HI6
      go_wp2
      refine leaves_cons (f := 65) (args := #[.pointer (some ⟨w.heap.size, 0, none⟩), .pointer (some ⟨w.heap.size + 1, 0, none⟩), .pointer (some ⟨w.heap.size + 1 + 1, 0, none⟩)]) (by simp) (by simp [go_sem]) ?_
      refine (catch_idle _ _ _ _).mono ?_
      rintro e u' w8 ⟨rfl, rfl, hw8⟩
      have hl8 : Left w.heap.size (.int .i64 I.kind) (.int .i64 I.cap) (.slice A0 n0 C0) (.slice A1 n1 C1) (.int .i64 I.size) (.slice A2 n2 C2) (.int .i64 0) (.int .i64 0) (.int .i64 0) w w8 := by rw [hw8]; exact HL8.out
      have hi8 : Ins (fun q => W4.heap.size ≤ q) (fun q => W4.heap.size ≤ q) w8 (.agg #[.int .i64 I.kind, .int .i64 I.cap, .slice A0 n0 C0, .slice A1 n1 C1, .int .i64 I.size, .slice A2 n2 C2]) I := by rw [hw8]; exact HI8.out
      clear hw8 HL8 HI8
      obtain ⟨z0, z1, z2, z3, z4, z5⟩ := hl8.1.box
      obtain ⟨a0, a1, a2⟩ := hl8.cells
      simp [Leaves, settle, results, Tryz.results34, go_sem, z0, z1, z2, z3, z4, z5, a0, a1, a2]
      exact ⟨_, rfl, hi8.imp (fun q hq => by omega) (fun q hq => by omega), hl8.2.2.2⟩
    · rw [e1, if_neg hk3, hp4]
      have TK := fun W hW => TN W hW hk3
      unfold Dies at TK
      rw [hF4] at TK
      clear TO TN e1 hF4 hp4 hk3 hI4 hP4 hE4
      go_enter_defers Tryz.func34, Tryz.ntmps34
      go_wp2_with fail
      rw [← hW4]
      with_reducible refine IN.mono ?_
      rintro e w5 ⟨v, rfl, hIn, hrd, kb⟩
      obtain ⟨A0, n0, C0, A1, n1, C1, A2, n2, C2, rfl⟩ := InV hIn
      have hL5 := fin w5 kb
      obtain ⟨x0, x1, x2, x3, x4, x5⟩ := hL5.1.box
      have f := hL5.1.free
      have f0 := f 0
      have f1 := f 1
      have f2 := f 2
      have f3 := f 3
      have f4 := f 4
      have f5 := f 5
      have HL6 := Lib.hid (hL5.again (.int .i64 I.kind) (.int .i64 I.cap) (.slice A0 n0 C0) (.slice A1 n1 C1) (.int .i64 I.size) (.slice A2 n2 C2))
      have HR6 := Lib.hid (RdS.set6 (b := w.heap.size) (v0 := .int .i64 I.kind) (v1 := .int .i64 I.cap) (v2 := .slice A0 n0 C0) (v3 := .slice A1 n1 C1) (v4 := .int .i64 I.size) (v5 := .slice A2 n2 C2) hrd (by omega) (by omega))
      have HI6 := Lib.hid (hIn.held (held_set6 (b := w.heap.size) (v0 := .int .i64 I.kind) (v1 := .int .i64 I.cap) (v2 := .slice A0 n0 C0) (v3 := .slice A1 n1 C1) (v4 := .int .i64 I.size) (v5 := .slice A2 n2 C2) fun q hq => by omega) (held_set6 (b := w.heap.size) (v0 := .int .i64 I.kind) (v1 := .int .i64 I.cap) (v2 := .slice A0 n0 C0) (v3 := .slice A1 n1 C1) (v4 := .int .i64 I.size) (v5 := .slice A2 n2 C2) fun q hq => by omega))
      clear f hL5 hrd hIn kb fin hW4 hb4 IN
      unfold set6 at HL6 HR6 HI6
      go_wp2_with fail
      with_reducible refine (TK _ HR6.out).mono ?_
      rintro e w7 ⟨rfl, kb7⟩
      have hL7 := HL6.out.kb kb7 (by omega)
      have CF := catch_fault w.heap.size x.line x.col 4 _ _ _ _ _ _ _ _ _ [] w7 hL7.1 hL7.2.1 hL7.2.2.1
      have HB := Lib.hid hL7.2.2.2
      clear hL7 kb7 HL6 HR6 HI6
      go_wp2
      refine leaves_cons (f := 65) (args := #[.pointer (some ⟨w.heap.size, 0, none⟩), .pointer (some ⟨w.heap.size + 1, 0, none⟩), .pointer (some ⟨w.heap.size + 1 + 1, 0, none⟩)]) (by simp) (by simp [go_sem]) ?_
      refine CF.mono ?_
      rintro e u' w8 ⟨rfl, rfl, HL⟩
      obtain ⟨z0, z1, z2, z3, z4, z5⟩ := HL.1.box
      obtain ⟨y0, y1, y2⟩ := HL.cells
      simp [Leaves, settle, results, Tryz.results34, go_sem, z0, z1, z2, z3, z4, z5, y0, y1, y2]
      exact ⟨_, rfl, ins_zero _ _ _, HB.out.trans HL.2.2.2⟩
end Go.Proofs.YtbadingdklenhaaGreatDoor
