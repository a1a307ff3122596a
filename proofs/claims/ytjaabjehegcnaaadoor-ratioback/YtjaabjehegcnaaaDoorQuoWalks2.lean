/-
  What the document's quotients do (package secateurref01): Floor.
-/
import Derived.Test.YtjaabjehegcnaaaDoorQuoWalks
namespace Go.Proofs.YtjaabjehegcnaaaDoor
set_option maxRecDepth 100000
open Go.RowKit

/-- Without the k lowest bits. -/
def cut (q k : Nat) : Nat := q / 2 ^ k * 2 ^ k
theorem cut_zero (q : Nat) : cut q 0 = q := by simp [cut]
theorem cut_top {q : Nat} (h : q < 2 ^ 64) : cut q 64 = 0 := by simp [cut, Nat.div_eq_of_lt h]
theorem cut_step (q k : Nat) : (cut q (k + 1) + 2 ^ k ≤ q → cut q k = cut q (k + 1) + 2 ^ k) ∧ (¬ cut q (k + 1) + 2 ^ k ≤ q → cut q k = cut q (k + 1)) := by
  unfold cut
  have hp : 0 < 2 ^ k := Nat.two_pow_pos k
  have e1 : q / 2 ^ (k + 1) = q / 2 ^ k / 2 := by rw [Nat.pow_succ, Nat.div_div_eq_div_mul]
  have e2 : q / 2 ^ k / 2 * 2 ^ (k + 1) = 2 * (q / 2 ^ k / 2) * 2 ^ k := by rw [Nat.pow_succ]; ac_rfl
  rw [e1, e2]
  have h1 := Nat.div_add_mod q (2 ^ k)
  have h2 := Nat.mod_lt q hp
  rw [Nat.mul_comm] at h1
  obtain ⟨t, ht⟩ : ∃ t, q / 2 ^ k = t := ⟨_, rfl⟩
  rw [ht] at h1 ⊢
  rcases Nat.mod_two_eq_zero_or_one t with ho | ho
  · have e3 : 2 * (t / 2) = t := by omega
    rw [e3]
    refine ⟨fun h => ?_, fun _ => rfl⟩
    omega
  · have e3 : 2 * (t / 2) + 1 = t := by omega
    have e4 : t * 2 ^ k = 2 * (t / 2) * 2 ^ k + 2 ^ k := by
      conv => lhs; rw [← e3]
      rw [Nat.add_mul, Nat.one_mul]
    rw [e4]
    refine ⟨fun _ => rfl, fun h => ?_⟩
    omega
theorem cut_le (q k : Nat) : cut q k ≤ q := Nat.div_mul_le_self q (2 ^ k)

/-- The digits of 2 to the k. -/
def bitL (k : Nat) : List Nat := [0, 0, 0, 0].set (k / 16) (2 ^ (k % 16))
theorem bitL_len (k : Nat) : (bitL k).length = 4 := by simp [bitL]
theorem bitL_Dg (k : Nat) : Dg (bitL k) := by
  refine Dg.set ?_ ?_ _
  · exact Dg.cons (by omega) (Dg.cons (by omega) (Dg.cons (by omega) (Dg.cons (by omega) Dg.nil)))
  · calc 2 ^ (k % 16) ≤ 2 ^ 15 := Nat.pow_le_pow_right (by omega) (by omega)
      _ < 65536 := by omega
theorem bitL_val {k : Nat} (h : k < 64) : val (bitL k) = 2 ^ k := by
  have e := val_set (ds := [0, 0, 0, 0]) (j := k / 16) (by simp; omega) (2 ^ (k % 16))
  have e0 : ([0, 0, 0, 0] : List Nat).getD (k / 16) 0 = 0 := by
    rcases (show k / 16 = 0 ∨ k / 16 = 1 ∨ k / 16 = 2 ∨ k / 16 = 3 by omega) with h | h | h | h <;> rw [h] <;> rfl
  have ev : val [0, 0, 0, 0] = 0 := rfl
  rw [e0, ev] at e
  simp only [Nat.mul_zero, Nat.add_zero, Nat.zero_add] at e
  unfold bitL
  rw [e, show (65536 : Nat) = 2 ^ 16 by rfl, ← Nat.pow_mul, ← Nat.pow_add]
  congr 1; omega

theorem BoxAt.put0 {n : Nat} {p p' : Bool} {x : Option Addr} {l k : Nat} {w : World} (h : BoxAt n p x l k w) : BoxAt n p' x l k (w.setCell ⟨n, 0, none⟩ (.bool p')) := by
  obtain ⟨c0, c1, f0, f1, hs⟩ := h
  exact ⟨by simp [go_sem, c0], by simpa [go_sem] using c1, by simpa [go_sem] using f0, by simpa [go_sem] using f1, by simpa [World.setCell] using hs⟩
theorem BoxAt.other {n n' : Nat} {p : Bool} {x : Option Addr} {l k : Nat} {w : World} (h : BoxAt n p x l k w) (hne : n ≠ n') {u v : Value} : BoxAt n p x l k ((w.setCell ⟨n', 0, none⟩ u).setCell ⟨n', 1, none⟩ v) := by
  have e : ((w.setCell ⟨n', 0, none⟩ u).setCell ⟨n', 1, none⟩ v).heap[n]? = w.heap[n]? := by
    rw [Below.heap_setCell _ _ _ _ hne, Below.heap_setCell _ _ _ _ hne]
  exact ⟨by rw [World.cell?_of_block (w := w) (a := ⟨n, 0, none⟩) e]; exact h.c0, by rw [World.cell?_of_block (w := w) (a := ⟨n, 1, none⟩) e]; exact h.c1,
    by rw [World.frozen?_of_block (w := w) (a := ⟨n, 0, none⟩) e]; exact h.f0, by rw [World.frozen?_of_block (w := w) (a := ⟨n, 1, none⟩) e]; exact h.f1, by simpa [World.setCell] using h.size⟩
theorem box_new2 (w : World) (o : Obj) (p : Bool) (x : Option Addr) (l k : Nat) : BoxAt (w.heap.size + 1) p x l k ((w.alloc o).alloc (.cells #[.bool p, .slice x l k] 59)) :=
  ⟨by simp [go_sem], by simp [go_sem], by simp [go_sem], by simp [go_sem], by simp⟩

/-- Three numbers, in three variables of their own. -/
structure Trio (nx ny nz : Nat) (xA : Option Addr) (lA kA : Nat) (xB : Option Addr) (lB kB : Nat) (A B : Nat) (pz : Bool) (xz : Option Addr) (lz kz : Nat) (z : Int) (w0 w : World) : Prop where
  mk ::
  X : BoxAt nx false xA lA kA w
  Y : BoxAt ny false xB lB kB w
  Z : BoxAt nz pz xz lz kz w
  RX : Rep w (.agg #[.bool false, .slice xA lA kA]) (A : Int)
  RY : Rep w (.agg #[.bool false, .slice xB lB kB]) (B : Int)
  RZ : Rep w (.agg #[.bool pz, .slice xz lz kz]) z
  bel : Below w0.heap.size w0 w
theorem Trio.next {nx ny nz : Nat} {xA : Option Addr} {lA kA : Nat} {xB : Option Addr} {lB kB : Nat} {A B : Nat} {pz : Bool} {xz : Option Addr} {lz kz : Nat} {z : Int} {w0 w w' : World}
    (h : Trio nx ny nz xA lA kA xB lB kB A B pz xz lz kz z w0 w) (hb : Below w.heap.size w w') : Trio nx ny nz xA lA kA xB lB kB A B pz xz lz kz z w0 w' :=
  ⟨h.X.next hb, h.Y.next hb, h.Z.next hb, h.RX.below hb, h.RY.below hb, h.RZ.below hb, on h.bel hb⟩

theorem bit_digs (w : World) {k : Nat} (arr : Array Value) (he : arr.toList = (bitL k).map cellU) : Digs (w.alloc (.cells arr 78)) (some ⟨w.heap.size, 0, none⟩) 4 (bitL k) := by
  refine Or.inr ⟨w.heap.size, rfl, by simp, by rw [bitL_len]; omega, by unfold maxLen; omega, fun i hi => ?_⟩
  rw [World.cell?_alloc_at _ _ _ _ rfl, ← Array.getElem?_toList, he]
  simp [cellU, List.getD_eq_getElem?_getD, hi]

theorem trim_bit (w : World) {k : Nat} (hk : k < 64) (arr : Array Value) (he : arr.toList = (bitL k).map cellU) :
    Calls Tryd.prog 62 #[.agg #[.bool false, .slice (some ⟨w.heap.size, 0, none⟩) 4 4]] (w.alloc (.cells arr 78)) fun e w' => (∃ v, e = .returned v ∧ Rep w' v ((2 ^ k : Nat) : Int)) ∧ Below (w.alloc (.cells arr 78)).heap.size (w.alloc (.cells arr 78)) w' := by
  have T := trim_any false (some ⟨w.heap.size, 0, none⟩) 4 (bitL k) _ (bit_digs w arr he) (bitL_Dg k)
  rw [bitL_len, bitL_val hk] at T
  exact T
theorem Trio.store {nx ny nz : Nat} {xA : Option Addr} {lA kA : Nat} {xB : Option Addr} {lB kB : Nat} {A B : Nat} {pz pz' : Bool} {xz xz' : Option Addr} {lz kz lz' kz' : Nat} {z z' : Int} {w0 w : World}
    (h : Trio nx ny nz xA lA kA xB lB kB A B pz xz lz kz z w0 w) (hx : nx ≠ nz) (hy : ny ≠ nz) (h0 : w0.heap.size ≤ nz) (hr : Rep w (.agg #[.bool pz', .slice xz' lz' kz']) z') :
    Trio nx ny nz xA lA kA xB lB kB A B pz' xz' lz' kz' z' w0 ((w.setCell ⟨nz, 0, none⟩ (.bool pz')).setCell ⟨nz, 1, none⟩ (.slice xz' lz' kz')) :=
  ⟨h.X.other hx, h.Y.other hy, h.Z.store, h.RX.store h.Z.c0 _ _, h.RY.store h.Z.c0 _ _, hr.store h.Z.c0 _ _, (h.bel.setCell (by exact h0) _).setCell (by exact h0) _⟩

theorem few_nat {n : Nat} (h : n < 2 ^ 80) : Few (n : Int) := few_of 5 (by omega) (by
  rw [Int.natAbs_natCast]; exact h)

theorem cmp_try {A B T Q : Nat} (hB : B ≠ 0) (hQ : A / B = Q) : (cmp3 ((T : Int) * (B : Int)) (A : Int) ≤ 0) = (T ≤ Q) := by
  rw [← hQ, Nat.le_div_iff_mul_le (by omega), ← Int.natCast_mul]
  unfold cmp3
  apply propext
  (repeat' split) <;> omega

theorem quo_val {A B Q : Nat} (hB : B ≠ 0) (hQ : A / B = Q) : (A : Int).fdiv (B : Int) = (Q : Int) ∧ (Q * B = A → (-(A : Int)).fdiv (B : Int) = -(Q : Int)) ∧ (Q * B ≠ A → (-(A : Int)).fdiv (B : Int) = -((Q + 1 : Nat) : Int)) := by
  have hB' : (0 : Int) < (B : Int) := by omega
  have e : Q * B + A % B = A := by rw [← hQ, Nat.mul_comm]; exact Nat.div_add_mod A B
  have hm := Nat.mod_lt A (show 0 < B by omega)
  have hc : ((Q * B : Nat) : Int) = (Q : Int) * (B : Int) := Int.natCast_mul Q B
  refine ⟨?_, fun h => ?_, fun h => ?_⟩
  · rw [Int.fdiv_eq_ediv_of_nonneg _ (by omega), ← Int.natCast_ediv, hQ]
  · rw [Int.fdiv_eq_ediv_of_nonneg _ (by omega)]
    refine ((Int.ediv_emod_unique (r := 0) hB').2 ⟨?_, by omega, by omega⟩).1
    rw [Int.mul_neg, Int.mul_comm (B : Int), ← hc]; omega
  · rw [Int.fdiv_eq_ediv_of_nonneg _ (by omega)]
    refine ((Int.ediv_emod_unique (r := (B : Int) - ((A % B : Nat) : Int)) hB').2 ⟨?_, by omega, by omega⟩).1
    rw [Int.mul_neg, Int.natCast_add, Int.mul_add, Int.mul_comm (B : Int), ← hc]; omega

/-- What is told: the quotient of the sizes, one more where it is cut off and the signs and the way ask for it, with the sign. -/
theorem quo_all {a b : Int} {Q : Nat} (hb : b ≠ 0) (hQ : a.natAbs / b.natAbs = Q) (up : Bool) :
    (Q * b.natAbs = a.natAbs → (if up then cdiv a b else a.fdiv b) = sgn (!(decide (a < 0) == decide (b < 0))) Q) ∧
    (Q * b.natAbs ≠ a.natAbs → (if up then cdiv a b else a.fdiv b) = sgn (!(decide (a < 0) == decide (b < 0))) (if (!((!(decide (a < 0) == decide (b < 0))) == up)) = true then Q + 1 else Q)) := by
  obtain ⟨f1, f2, f3⟩ := quo_val (show b.natAbs ≠ 0 by omega) hQ
  by_cases ha : a < 0 <;> by_cases hb' : b < 0
  · have ea : (a.natAbs : Int) = -a := by omega
    have eb : (b.natAbs : Int) = -b := by omega
    rw [ea, eb] at f1 f2 f3
    rw [Int.neg_fdiv_neg] at f1
    rw [Int.neg_neg] at f2 f3
    have g : ∀ x y : Int, x.fdiv (-y) = (-x).fdiv y := fun x y => by rw [← Int.neg_fdiv_neg, Int.neg_neg]
    rw [g] at f2 f3
    refine ⟨fun h => ?_, fun h => ?_⟩ <;> cases up <;> simp [ha, hb', sgn, cdiv] <;> first | exact f1 | exact f2 h | (rw [f1]; done) | (rw [f2 h]; done) | (rw [f2 h]; omega) | (rw [f3 h]; omega)
  · have ea : (a.natAbs : Int) = -a := by omega
    have eb : (b.natAbs : Int) = b := by omega
    rw [ea, eb] at f1 f2 f3
    rw [Int.neg_neg] at f2 f3
    refine ⟨fun h => ?_, fun h => ?_⟩ <;> cases up <;> simp [ha, hb', sgn, cdiv] <;> first | exact f1 | exact f2 h | (rw [f1]; done) | (rw [f2 h]; done) | (rw [f2 h]; omega) | (rw [f3 h]; omega)
  · have ea : (a.natAbs : Int) = a := by omega
    have eb : (b.natAbs : Int) = -b := by omega
    rw [ea, eb] at f1 f2 f3
    have g : ∀ x y : Int, x.fdiv (-y) = (-x).fdiv y := fun x y => by rw [← Int.neg_fdiv_neg, Int.neg_neg]
    rw [g] at f1
    rw [Int.neg_fdiv_neg] at f2 f3
    refine ⟨fun h => ?_, fun h => ?_⟩ <;> cases up <;> simp [ha, hb', sgn, cdiv] <;> first | exact f1 | exact f2 h | (rw [f1]; done) | (rw [f2 h]; done) | (rw [f2 h]; omega) | (rw [f3 h]; omega)
  · have ea : (a.natAbs : Int) = a := by omega
    have eb : (b.natAbs : Int) = b := by omega
    rw [ea, eb] at f1 f2 f3
    refine ⟨fun h => ?_, fun h => ?_⟩ <;> cases up <;> simp [ha, hb', sgn, cdiv] <;> first | exact f1 | exact f2 h | (rw [f1]; done) | (rw [f2 h]; done) | (rw [f2 h]; omega) | (rw [f3 h]; omega)

theorem few_one : Few 1 := few_of 1 (by omega) (by omega)
/-- A number's sign is set, and it is trimmed. -/
theorem trim_put {w : World} {p q : Bool} {x : Option Addr} {l k n V : Nat} (neg : Bool) (h : Rep w (.agg #[.bool p, .slice x l k]) (V : Int)) (hc : w.cell? ⟨n, 0, none⟩ = some (.bool q)) (o : Obj) :
    Calls Tryd.prog 62 #[.agg #[.bool neg, .slice x l k]] ((w.setCell ⟨n, 0, none⟩ (.bool neg)).alloc o) fun e w' => (∃ v, e = .returned v ∧ Rep w' v (sgn neg V)) ∧ Below ((w.setCell ⟨n, 0, none⟩ (.bool neg)).alloc o).heap.size ((w.setCell ⟨n, 0, none⟩ (.bool neg)).alloc o) w' := by
  obtain ⟨_, h2, h3⟩ := h.parts
  rw [Int.natAbs_natCast] at h2 h3
  have T := trim_any neg x k (dig V) _ ((h3.put0 hc (.bool neg)).below (one_below _ o)) (Dg_dig V)
  rw [val_dig, ← h2] at T
  exact T

theorem trim_put1 {w : World} {p q : Bool} {x : Option Addr} {l k n V : Nat} (neg : Bool) (h : Rep w (.agg #[.bool p, .slice x l k]) (V : Int)) (hc : w.cell? ⟨n, 0, none⟩ = some (.bool q)) :
    Calls Tryd.prog 62 #[.agg #[.bool neg, .slice x l k]] (w.setCell ⟨n, 0, none⟩ (.bool neg)) fun e w' => (∃ v, e = .returned v ∧ Rep w' v (sgn neg V)) ∧ Below (w.setCell ⟨n, 0, none⟩ (.bool neg)).heap.size (w.setCell ⟨n, 0, none⟩ (.bool neg)) w' := by
  obtain ⟨_, h2, h3⟩ := h.parts
  rw [Int.natAbs_natCast] at h2 h3
  have T := trim_any neg x k (dig V) _ (h3.put0 hc (.bool neg)) (Dg_dig V)
  rw [val_dig, ← h2] at T
  exact T

theorem next_rel {P : Nat → Prop} {k : Nat} (hk : k < 64) (h : P k) : (Value.int .i64 ((k : Int) - 1) = .int .i64 (-1) ∧ P 0) ∨ ∃ k' : Nat, k' < 64 ∧ Value.int .i64 ((k : Int) - 1) = .int .i64 (k' : Int) ∧ P (k' + 1) := by
  rcases k with _ | k
  · exact Or.inl ⟨rfl, h⟩
  · exact Or.inr ⟨k, by omega, congrArg (Value.int .i64) (by omega), h⟩

set_option maxHeartbeats 8000000 in
theorem rfloor_any (a b : Int) (up : Bool) (ha : I64 a) (hb : I64 b) (h0 : b ≠ 0) (w : World) :
    Calls Tryd.prog 46 #[.int .i64 a, .int .i64 b, .bool up] w fun e w' => e = .returned (.tuple #[.int .i64 (fit (if up then cdiv a b else a.fdiv b)), .bool (fitB (if up then cdiv a b else a.fdiv b))]) ∧ Below w.heap.size w w' := by
  obtain ⟨R, hR⟩ : ∃ R, (if up then cdiv a b else a.fdiv b) = R := ⟨_, rfl⟩
  rw [hR]
  have HR := Lib.hid hR
  have h0' : (b == 0) = false := by simp [h0]
  have H0 := Lib.hid h0
  clear hR h0
  go_enter Tryd.func46, Tryd.ntmps46
  go_wp2_with fail
  with_reducible refine (of_any a ha _).mono ?_
  rintro e w1 ⟨⟨v, rfl, Q⟩, b1⟩
  obtain ⟨pA, xA, lA, kA, rfl, RA⟩ := Q.form
  go_wp2_with fail
  with_reducible refine (of_any b hb _).mono ?_
  rintro e w2 ⟨⟨v, rfl, Q⟩, b2⟩
  obtain ⟨pB, xB, lB, kB, rfl, RB⟩ := Q.form
  have HA := (box_new w1 pA xA lA kA).next b2
  have RA2 := (RA.below (one_below _ _)).below b2
  have B2 := on (on b1 (one_below _ _)) b2
  have s1 := b1.size
  have S12 : Hid (w1.heap.size ≤ w2.heap.size) := by have := b2.size; simp at this; show _ ≤ _; omega
  clear b1 b2 RA
  have T0 : Trio w1.heap.size w2.heap.size (w2.heap.size + 1) xA lA kA xB lB kB a.natAbs b.natAbs false none 0 0 0 w
      (((w2.setCell ⟨w1.heap.size, 0, none⟩ (.bool false)).alloc (.cells #[.bool false, .slice xB lB kB] 59)).alloc (.cells #[.bool false, .slice none 0 0] 59)) := by
    have hsz : (w2.setCell ⟨w1.heap.size, 0, none⟩ (.bool false)).heap.size = w2.heap.size := by simp [World.setCell]
    have hYb := (box_new (w2.setCell ⟨w1.heap.size, 0, none⟩ (.bool false)) false xB lB kB).next (one_below _ (.cells #[.bool false, .slice none 0 0] 59))
    have hZb := box_new2 (w2.setCell ⟨w1.heap.size, 0, none⟩ (.bool false)) (.cells #[.bool false, .slice xB lB kB] 59) false none 0 0
    rw [hsz] at hYb hZb
    exact ⟨HA.put0.next (two_below _ _ _), hYb, hZb, ((RA2.abs.put0 HA.c0 _).below (two_below _ _ _)), ((RB.abs.put0 HA.c0 _).below (two_below _ _ _)), rep_zero _,
      on (B2.setCell (by show w.heap.size ≤ w1.heap.size; omega) _) (two_below _ _ _)⟩
  have hpA : pA = decide (a < 0) := RA2.parts.1
  have hpB : pB = decide (b < 0) := RB.parts.1
  have HT := Lib.hid T0
  have HN := Lib.hid (And.intro hpA hpB)
  obtain ⟨t0, t1, t2, t3, t4⟩ := HA
  clear RA2 RB B2 T0 hpA hpB
  obtain ⟨Q, hQ⟩ : ∃ Q, a.natAbs / b.natAbs = Q := ⟨_, rfl⟩
  have hQ64 : Q < 2 ^ 64 := by
    rw [← hQ]
    exact Nat.lt_of_le_of_lt (Nat.div_le_self _ _) (by unfold I64 at ha; omega)
  have HQ := Lib.hid hQ
  have H64 := Lib.hid hQ64
  clear hQ hQ64
  go_wp2
  go_loopw [12] (fun i wr => ∃ pz xz lz kz, ((i = .int .i64 (-1) ∧ Trio w1.heap.size w2.heap.size (w2.heap.size + 1) xA lA kA xB lB kB a.natAbs b.natAbs pz xz lz kz ((cut Q 0 : Nat) : Int) w wr) ∨ ∃ k : Nat, k < 64 ∧ i = .int .i64 k ∧ Trio w1.heap.size w2.heap.size (w2.heap.size + 1) xA lA kA xB lB kB a.natAbs b.natAbs pz xz lz kz ((cut Q (k + 1) : Nat) : Int) w wr)) (fun i _ => (intOf i + 1).toNat)
  case atStart => exact ⟨false, none, 0, 0, Or.inr ⟨63, by omega, rfl, by rw [cut_top H64.out]; exact HT.out⟩⟩
  case round =>
    clear t0 t1 t2 t3 t4 HT
    obtain ⟨pz, xz, lz, kz, ⟨rfl, hT⟩ | ⟨k, hk, rfl, hT⟩⟩ := hrel
    ·
      rw [cut_zero] at hT
      have fQ := Lib.hid (few_nat (n := Q) (by have := H64.out; omega))
      have fy := Lib.hid (few_nat (n := b.natAbs) (by unfold I64 at hb; omega))
      have HT := Lib.hid hT
      obtain ⟨⟨x0, x1, x2, x3, x4⟩, ⟨y0, y1, y2, y3, y4⟩, ⟨z0, z1, z2, z3, z4⟩, RX, RY, RZ, hB⟩ := hT
      obtain ⟨c, hce⟩ : ∃ c, cmp3 ((Q : Int) * (b.natAbs : Int)) (a.natAbs : Int) = c := ⟨_, rfl⟩
      have hcx : (c = 0) = (Q * b.natAbs = a.natAbs) := by
        rw [← hce, ← Int.natCast_mul]; unfold cmp3; apply propext; (repeat' split) <;> omega
      have HC := Lib.hid hce
      obtain ⟨neg, hneg⟩ : ∃ n, (!(pA == pB)) = n := ⟨_, rfl⟩
      have QA := quo_all H0.out HQ.out up
      rw [HR.out, ← HN.out.1, ← HN.out.2, hneg] at QA
      have s2 : w1.heap.size ≤ w2.heap.size := S12.out
      clear hce
      by_cases hx : Q * b.natAbs = a.natAbs
      · have hc0 : (c == 0) = true := by simpa using hcx.mpr hx
        have HV := Lib.hid (QA.1 hx)
        clear QA hcx hx
        go_wp2_with fail
        with_reducible refine (rmul_rep _ _ _ _ _ RZ RY fQ.out fy.out).mono ?_
        rintro e w3 ⟨⟨v, rfl, Qm⟩, b3⟩
        obtain ⟨pM, xM, lM, kM, rfl, RM⟩ := Qm.form
        have HT3 := Lib.hid (HT.out.next b3)
        clear x0 x1 x2 x3 x4 y0 y1 y2 y3 y4 z0 z1 z2 z3 z4 RX RY RZ hB HT b3
        obtain ⟨⟨x0, x1, x2, x3, x4⟩, ⟨y0, y1, y2, y3, y4⟩, ⟨z0, z1, z2, z3, z4⟩, RX, RY, RZ, hB⟩ := HT3.out
        go_wp2_with fail
        with_reducible refine (cmp_rep _ _ _ _ _ (RM.below (one_below _ _)) (RX.below (one_below _ _))).mono ?_
        rintro e w4 ⟨rfl, b4⟩
        have HT4 := Lib.hid (HT3.out.next (on (one_below w3 (.cells #[.bool pM, .slice xM lM kM] 59)) b4))
        clear x0 x1 x2 x3 x4 y0 y1 y2 y3 y4 z0 z1 z2 z3 z4 RX RY RZ hB HT3 b4 RM
        obtain ⟨⟨x0, x1, x2, x3, x4⟩, ⟨y0, y1, y2, y3, y4⟩, ⟨z0, z1, z2, z3, z4⟩, RX, RY, RZ, hB⟩ := HT4.out
        rw [HC.out]
        go_wp2_with fail
        with_reducible refine (of_any 1 (by unfold I64; omega) _).mono ?_
        rintro e w5 ⟨⟨v, rfl, Qo⟩, b5⟩
        obtain ⟨pO, xO, lO, kO, rfl, RO⟩ := Qo.form
        have HT5 := Lib.hid (HT4.out.next b5)
        clear x0 x1 x2 x3 x4 y0 y1 y2 y3 y4 z0 z1 z2 z3 z4 RX RY RZ hB HT4 b5
        obtain ⟨⟨x0, x1, x2, x3, x4⟩, ⟨y0, y1, y2, y3, y4⟩, ⟨z0, z1, z2, z3, z4⟩, RX, RY, RZ, hB⟩ := HT5.out
        go_wp2_with fail
        with_reducible refine (trim_put neg (V := Q) RZ z0 (.cells #[.bool pO, .slice xO lO kO] 59)).mono ?_
        rintro e w6 ⟨⟨v, rfl, Qz⟩, b6⟩
        obtain ⟨pE, xE, lE, kE, rfl, RE⟩ := Qz.form
        have hZ6 := (((HT5.out.Z.put0 (p' := neg)).next (one_below _ (.cells #[.bool pO, .slice xO lO kO] 59))).next b6)
        have hB6 := on (on (hB.setCell (p := ⟨w2.heap.size + 1, 0, none⟩) (by show w.heap.size ≤ w2.heap.size + 1; omega) (.bool neg)) (one_below _ (.cells #[.bool pO, .slice xO lO kO] 59))) b6
        rw [← HV.out] at RE
        clear x0 x1 x2 x3 x4 y0 y1 y2 y3 y4 z0 z1 z2 z3 z4 RX RY RZ hB HT5 b6
        obtain ⟨z0, z1, z2, z3, z4⟩ := hZ6
        go_wp2_with fail
        with_reducible refine (short_rep R _ _ (RE.store z0 _ _)).mono ?_
        rintro e w7 ⟨rfl, b7⟩
        have hB7 := on ((hB6.setCell (p := ⟨w2.heap.size + 1, 0, none⟩) (by show w.heap.size ≤ w2.heap.size + 1; omega) (.bool pE)).setCell (p := ⟨w2.heap.size + 1, 1, none⟩) (by show w.heap.size ≤ w2.heap.size + 1; omega) (.slice xE lE kE)) b7
        clear z0 z1 z2 z3 z4 b7 RE
        go_wp2
        go_ret2
        exact ⟨rfl, hB7⟩
      · have hc0 : (c == 0) = false := by
          have : ¬ c = 0 := by rw [hcx]; exact hx
          simpa using this
        have HV0 := QA.2 hx
        clear QA hcx hx
        obtain ⟨mr, hmr⟩ : ∃ m, (!(neg == up)) = m := ⟨_, rfl⟩
        rw [hmr] at HV0
        cases mr
        · simp only [Bool.false_eq_true, if_false] at HV0
          have HV := Lib.hid HV0
          clear HV0
          go_wp2_with fail
          with_reducible refine (rmul_rep _ _ _ _ _ RZ RY fQ.out fy.out).mono ?_
          rintro e w3 ⟨⟨v, rfl, Qm⟩, b3⟩
          obtain ⟨pM, xM, lM, kM, rfl, RM⟩ := Qm.form
          have HT3 := Lib.hid (HT.out.next b3)
          clear x0 x1 x2 x3 x4 y0 y1 y2 y3 y4 z0 z1 z2 z3 z4 RX RY RZ hB HT b3
          obtain ⟨⟨x0, x1, x2, x3, x4⟩, ⟨y0, y1, y2, y3, y4⟩, ⟨z0, z1, z2, z3, z4⟩, RX, RY, RZ, hB⟩ := HT3.out
          go_wp2_with fail
          with_reducible refine (cmp_rep _ _ _ _ _ (RM.below (one_below _ _)) (RX.below (one_below _ _))).mono ?_
          rintro e w4 ⟨rfl, b4⟩
          have HT4 := Lib.hid (HT3.out.next (on (one_below w3 (.cells #[.bool pM, .slice xM lM kM] 59)) b4))
          clear x0 x1 x2 x3 x4 y0 y1 y2 y3 y4 z0 z1 z2 z3 z4 RX RY RZ hB HT3 b4 RM
          obtain ⟨⟨x0, x1, x2, x3, x4⟩, ⟨y0, y1, y2, y3, y4⟩, ⟨z0, z1, z2, z3, z4⟩, RX, RY, RZ, hB⟩ := HT4.out
          rw [HC.out]
          go_wp2_with fail
          with_reducible refine (of_any 1 (by unfold I64; omega) _).mono ?_
          rintro e w5 ⟨⟨v, rfl, Qo⟩, b5⟩
          obtain ⟨pO, xO, lO, kO, rfl, RO⟩ := Qo.form
          have HT5 := Lib.hid (HT4.out.next b5)
          clear x0 x1 x2 x3 x4 y0 y1 y2 y3 y4 z0 z1 z2 z3 z4 RX RY RZ hB HT4 b5
          obtain ⟨⟨x0, x1, x2, x3, x4⟩, ⟨y0, y1, y2, y3, y4⟩, ⟨z0, z1, z2, z3, z4⟩, RX, RY, RZ, hB⟩ := HT5.out
          go_wp2_with fail
          with_reducible refine (trim_put neg (V := Q) RZ z0 (.cells #[.bool pO, .slice xO lO kO] 59)).mono ?_
          rintro e w6 ⟨⟨v, rfl, Qz⟩, b6⟩
          obtain ⟨pE, xE, lE, kE, rfl, RE⟩ := Qz.form
          have hZ6 := (((HT5.out.Z.put0 (p' := neg)).next (one_below _ (.cells #[.bool pO, .slice xO lO kO] 59))).next b6)
          have hB6 := on (on (hB.setCell (p := ⟨w2.heap.size + 1, 0, none⟩) (by show w.heap.size ≤ w2.heap.size + 1; omega) (.bool neg)) (one_below _ (.cells #[.bool pO, .slice xO lO kO] 59))) b6
          rw [← HV.out] at RE
          clear x0 x1 x2 x3 x4 y0 y1 y2 y3 y4 z0 z1 z2 z3 z4 RX RY RZ hB HT5 b6
          obtain ⟨z0, z1, z2, z3, z4⟩ := hZ6
          go_wp2_with fail
          with_reducible refine (short_rep R _ _ (RE.store z0 _ _)).mono ?_
          rintro e w7 ⟨rfl, b7⟩
          have hB7 := on ((hB6.setCell (p := ⟨w2.heap.size + 1, 0, none⟩) (by show w.heap.size ≤ w2.heap.size + 1; omega) (.bool pE)).setCell (p := ⟨w2.heap.size + 1, 1, none⟩) (by show w.heap.size ≤ w2.heap.size + 1; omega) (.slice xE lE kE)) b7
          clear z0 z1 z2 z3 z4 b7 RE
          go_wp2
          go_ret2
          exact ⟨rfl, hB7⟩
        · simp only [if_true] at HV0
          have HV := Lib.hid HV0
          clear HV0
          go_wp2_with fail
          with_reducible refine (rmul_rep _ _ _ _ _ RZ RY fQ.out fy.out).mono ?_
          rintro e w3 ⟨⟨v, rfl, Qm⟩, b3⟩
          obtain ⟨pM, xM, lM, kM, rfl, RM⟩ := Qm.form
          have HT3 := Lib.hid (HT.out.next b3)
          clear x0 x1 x2 x3 x4 y0 y1 y2 y3 y4 z0 z1 z2 z3 z4 RX RY RZ hB HT b3
          obtain ⟨⟨x0, x1, x2, x3, x4⟩, ⟨y0, y1, y2, y3, y4⟩, ⟨z0, z1, z2, z3, z4⟩, RX, RY, RZ, hB⟩ := HT3.out
          go_wp2_with fail
          with_reducible refine (cmp_rep _ _ _ _ _ (RM.below (one_below _ _)) (RX.below (one_below _ _))).mono ?_
          rintro e w4 ⟨rfl, b4⟩
          have HT4 := Lib.hid (HT3.out.next (on (one_below w3 (.cells #[.bool pM, .slice xM lM kM] 59)) b4))
          clear x0 x1 x2 x3 x4 y0 y1 y2 y3 y4 z0 z1 z2 z3 z4 RX RY RZ hB HT3 b4 RM
          obtain ⟨⟨x0, x1, x2, x3, x4⟩, ⟨y0, y1, y2, y3, y4⟩, ⟨z0, z1, z2, z3, z4⟩, RX, RY, RZ, hB⟩ := HT4.out
          rw [HC.out]
          go_wp2_with fail
          with_reducible refine (of_any 1 (by unfold I64; omega) _).mono ?_
          rintro e w5 ⟨⟨v, rfl, Qo⟩, b5⟩
          obtain ⟨pO, xO, lO, kO, rfl, RO⟩ := Qo.form
          have HT5 := Lib.hid (HT4.out.next b5)
          clear x0 x1 x2 x3 x4 y0 y1 y2 y3 y4 z0 z1 z2 z3 z4 RX RY RZ hB HT4 b5
          obtain ⟨⟨x0, x1, x2, x3, x4⟩, ⟨y0, y1, y2, y3, y4⟩, ⟨z0, z1, z2, z3, z4⟩, RX, RY, RZ, hB⟩ := HT5.out
          go_wp2_with fail
          with_reducible refine (radd_rep _ _ _ _ _ (RZ.below (one_below _ _)) (RO.below (one_below _ _)) fQ.out few_one).mono ?_
          rintro e w6 ⟨⟨v, rfl, Qt⟩, b6⟩
          obtain ⟨pT, xT, lT, kT, rfl, RT⟩ := Qt.form
          have HT6 := Lib.hid (HT5.out.next (on (one_below w5 (.cells #[.bool pO, .slice xO lO kO] 59)) b6))
          clear x0 x1 x2 x3 x4 y0 y1 y2 y3 y4 z0 z1 z2 z3 z4 RX RY RZ hB HT5 b6 RO
          obtain ⟨⟨x0, x1, x2, x3, x4⟩, ⟨y0, y1, y2, y3, y4⟩, ⟨z0, z1, z2, z3, z4⟩, RX, RY, RZ, hB⟩ := HT6.out
          go_wp2_with fail
          have hZs := HT6.out.Z.store (p' := pT) (x' := xT) (l' := lT) (k' := kT)
          have RTs := RT.store z0 (.bool pT) (.slice xT lT kT)
          rw [show ((Q : Int) + 1) = ((Q + 1 : Nat) : Int) by omega] at RTs
          have hBs := (hB.setCell (p := ⟨w2.heap.size + 1, 0, none⟩) (by show w.heap.size ≤ w2.heap.size + 1; omega) (.bool pT)).setCell (p := ⟨w2.heap.size + 1, 1, none⟩) (by show w.heap.size ≤ w2.heap.size + 1; omega) (.slice xT lT kT)
          with_reducible refine (trim_put1 neg (V := Q + 1) RTs hZs.c0).mono ?_
          rintro e w7 ⟨⟨v, rfl, Qz⟩, b7⟩
          obtain ⟨pE, xE, lE, kE, rfl, RE⟩ := Qz.form
          have hZ7 := (hZs.put0 (p' := neg)).next b7
          have hB7 := on (hBs.setCell (p := ⟨w2.heap.size + 1, 0, none⟩) (by show w.heap.size ≤ w2.heap.size + 1; omega) (.bool neg)) b7
          rw [← HV.out] at RE
          clear x0 x1 x2 x3 x4 y0 y1 y2 y3 y4 z0 z1 z2 z3 z4 RX RY RZ hB HT6 b7 RT RTs hZs hBs
          obtain ⟨z0, z1, z2, z3, z4⟩ := hZ7
          go_wp2_with fail
          with_reducible refine (short_rep R _ _ (RE.store z0 _ _)).mono ?_
          rintro e w8 ⟨rfl, b8⟩
          have hB8 := on ((hB7.setCell (p := ⟨w2.heap.size + 1, 0, none⟩) (by show w.heap.size ≤ w2.heap.size + 1; omega) (.bool pE)).setCell (p := ⟨w2.heap.size + 1, 1, none⟩) (by show w.heap.size ≤ w2.heap.size + 1; omega) (.slice xE lE kE)) b8
          clear z0 z1 z2 z3 z4 b8 RE
          go_wp2
          go_ret2
          exact ⟨rfl, hB8⟩
    · have HT := Lib.hid hT
      obtain ⟨⟨x0, x1, x2, x3, x4⟩, ⟨y0, y1, y2, y3, y4⟩, ⟨z0, z1, z2, z3, z4⟩, RX, RY, RZ, hB⟩ := hT
      have hc2 := cut_step Q k
      obtain ⟨T, hT⟩ : ∃ T, cut Q (k + 1) + 2 ^ k = T := ⟨_, rfl⟩
      rw [hT] at hc2
      have hp : 2 ^ k ≤ 2 ^ 63 := Nat.pow_le_pow_right (by omega) (by omega)
      have hcl := cut_le Q (k + 1)
      have hTb : T < 2 ^ 80 := by have := H64.out; omega
      have fz := Lib.hid (few_nat (n := cut Q (k + 1)) (by have := H64.out; omega))
      have fb := Lib.hid (few_nat (n := 2 ^ k) (by omega))
      have ft := Lib.hid (few_nat hTb)
      have fy := Lib.hid (few_nat (n := b.natAbs) (by unfold I64 at hb; omega))
      have HTe : Hid (((cut Q (k + 1) : Nat) : Int) + ((2 ^ k : Nat) : Int) = (T : Int)) := by show _ = _; rw [← hT, Int.natCast_add]
      obtain ⟨c, hce⟩ : ∃ c, cmp3 ((T : Int) * (b.natAbs : Int)) (a.natAbs : Int) = c := ⟨_, rfl⟩
      have hct := cmp_try (A := a.natAbs) (B := b.natAbs) (T := T) (Q := Q) (by have := H0.out; omega) HQ.out
      rw [hce] at hct
      have HCe := Lib.hid hce
      have hsh : IntKind.u64.wrap ((2 : Int) ^ (k % 16)) = ((2 ^ (k % 16) : Nat) : Int) := by
        have hle : 2 ^ (k % 16) ≤ 2 ^ 15 := Nat.pow_le_pow_right (by omega) (by omega)
        have e : ((2 ^ (k % 16) : Nat) : Int) = (2 : Int) ^ (k % 16) := Int.natCast_pow 2 _
        rw [← e, IntKind.wrap_u64]
        generalize 2 ^ (k % 16) = v at *
        omega
      have Hhs := Lib.hid hsh
      have s2 : w1.heap.size ≤ w2.heap.size := S12.out
      by_cases hle : T ≤ Q
      · have hcn : c ≤ 0 := by rw [hct]; exact hle
        have hcut : Hid (cut Q k = T) := hc2.1 hle
        clear hc2 hT hp hcl hTb hce hct hle
        rcases (show k / 16 = 0 ∨ k / 16 = 1 ∨ k / 16 = 2 ∨ k / 16 = 3 by omega) with hq | hq | hq | hq
        · have hq' : (k : Int) / 16 = 0 := by omega
          have hbl := Lib.hid hq
          go_wp2_with fail
          with_reducible refine (trim_bit wr hk _ (by unfold bitL; rw [hbl.out]; simp [cellU])).mono ?_
          rintro e w3 ⟨⟨v, rfl, Qb⟩, b3⟩
          obtain ⟨pC, xC, lC, kC, rfl, RC⟩ := Qb.form
          have HT3 := Lib.hid (HT.out.next (on (one_below wr _) b3))
          clear x0 x1 x2 x3 x4 y0 y1 y2 y3 y4 z0 z1 z2 z3 z4 RX RY RZ hB HT b3 hq hq' hsh
          obtain ⟨⟨x0, x1, x2, x3, x4⟩, ⟨y0, y1, y2, y3, y4⟩, ⟨z0, z1, z2, z3, z4⟩, RX, RY, RZ, hB⟩ := HT3.out
          go_wp2_with fail
          with_reducible refine (radd_rep _ _ _ _ _ (RZ.below (one_below _ _)) (RC.below (one_below _ _)) fz.out fb.out).mono ?_
          rintro e w4 ⟨⟨v, rfl, Qt⟩, b4⟩
          obtain ⟨pT, xT, lT, kT, rfl, RT⟩ := Qt.form
          rw [HTe.out] at RT
          have HT4 := Lib.hid (HT3.out.next (on (one_below w3 (.cells #[.bool pC, .slice xC lC kC] 59)) b4))
          clear x0 x1 x2 x3 x4 y0 y1 y2 y3 y4 z0 z1 z2 z3 z4 RX RY RZ hB HT3 b4 RC
          obtain ⟨⟨x0, x1, x2, x3, x4⟩, ⟨y0, y1, y2, y3, y4⟩, ⟨z0, z1, z2, z3, z4⟩, RX, RY, RZ, hB⟩ := HT4.out
          go_wp2_with fail
          with_reducible refine (rmul_rep _ _ _ _ _ (RT.below (one_below _ _)) (RY.below (one_below _ _)) ft.out fy.out).mono ?_
          rintro e w5 ⟨⟨v, rfl, Qm⟩, b5⟩
          obtain ⟨pM, xM, lM, kM, rfl, RM⟩ := Qm.form
          have HT5 := Lib.hid (HT4.out.next (on (one_below w4 (.cells #[.bool pT, .slice xT lT kT] 59)) b5))
          have ht5 := (box_new w4 pT xT lT kT).next b5
          have RT5 := (RT.below (one_below _ _)).below b5
          clear x0 x1 x2 x3 x4 y0 y1 y2 y3 y4 z0 z1 z2 z3 z4 RX RY RZ hB HT4 b5 RT
          obtain ⟨⟨x0, x1, x2, x3, x4⟩, ⟨y0, y1, y2, y3, y4⟩, ⟨z0, z1, z2, z3, z4⟩, RX, RY, RZ, hB⟩ := HT5.out
          go_wp2_with fail
          with_reducible refine (cmp_rep _ _ _ _ _ (RM.below (one_below _ _)) (RX.below (one_below _ _))).mono ?_
          rintro e w6 ⟨rfl, b6⟩
          have HT6 := Lib.hid (HT5.out.next (on (one_below w5 (.cells #[.bool pM, .slice xM lM kM] 59)) b6))
          have ht6 := (ht5.next (one_below w5 (.cells #[.bool pM, .slice xM lM kM] 59))).next b6
          have RT6 := (RT5.below (one_below _ _)).below b6
          clear x0 x1 x2 x3 x4 y0 y1 y2 y3 y4 z0 z1 z2 z3 z4 RX RY RZ hB HT5 b6 RT5 ht5 RM
          obtain ⟨⟨x0, x1, x2, x3, x4⟩, ⟨y0, y1, y2, y3, y4⟩, ⟨z0, z1, z2, z3, z4⟩, RX, RY, RZ, hB⟩ := HT6.out
          obtain ⟨u0, u1, u2, u3, u4⟩ := ht6
          rw [HCe.out]
          have TT := HT6.out.store (by omega) (by omega) (by omega) RT6
          rw [← hcut.out] at TT
          have HTT := Lib.hid TT
          clear TT
          go_wp2
          go_roundw
          case rel => exact ⟨pT, xT, lT, kT, next_rel (P := fun j => Trio w1.heap.size w2.heap.size (w2.heap.size + 1) xA lA kA xB lB kB a.natAbs b.natAbs pT xT lT kT ((cut Q j : Nat) : Int) w _) hk HTT.out⟩
          case measure => simp [intOf]
        · have hq' : (k : Int) / 16 = 1 := by omega
          have hbl := Lib.hid hq
          go_wp2_with fail
          with_reducible refine (trim_bit wr hk _ (by unfold bitL; rw [hbl.out]; simp [cellU])).mono ?_
          rintro e w3 ⟨⟨v, rfl, Qb⟩, b3⟩
          obtain ⟨pC, xC, lC, kC, rfl, RC⟩ := Qb.form
          have HT3 := Lib.hid (HT.out.next (on (one_below wr _) b3))
          clear x0 x1 x2 x3 x4 y0 y1 y2 y3 y4 z0 z1 z2 z3 z4 RX RY RZ hB HT b3 hq hq' hsh
          obtain ⟨⟨x0, x1, x2, x3, x4⟩, ⟨y0, y1, y2, y3, y4⟩, ⟨z0, z1, z2, z3, z4⟩, RX, RY, RZ, hB⟩ := HT3.out
          go_wp2_with fail
          with_reducible refine (radd_rep _ _ _ _ _ (RZ.below (one_below _ _)) (RC.below (one_below _ _)) fz.out fb.out).mono ?_
          rintro e w4 ⟨⟨v, rfl, Qt⟩, b4⟩
          obtain ⟨pT, xT, lT, kT, rfl, RT⟩ := Qt.form
          rw [HTe.out] at RT
          have HT4 := Lib.hid (HT3.out.next (on (one_below w3 (.cells #[.bool pC, .slice xC lC kC] 59)) b4))
          clear x0 x1 x2 x3 x4 y0 y1 y2 y3 y4 z0 z1 z2 z3 z4 RX RY RZ hB HT3 b4 RC
          obtain ⟨⟨x0, x1, x2, x3, x4⟩, ⟨y0, y1, y2, y3, y4⟩, ⟨z0, z1, z2, z3, z4⟩, RX, RY, RZ, hB⟩ := HT4.out
          go_wp2_with fail
          with_reducible refine (rmul_rep _ _ _ _ _ (RT.below (one_below _ _)) (RY.below (one_below _ _)) ft.out fy.out).mono ?_
          rintro e w5 ⟨⟨v, rfl, Qm⟩, b5⟩
          obtain ⟨pM, xM, lM, kM, rfl, RM⟩ := Qm.form
          have HT5 := Lib.hid (HT4.out.next (on (one_below w4 (.cells #[.bool pT, .slice xT lT kT] 59)) b5))
          have ht5 := (box_new w4 pT xT lT kT).next b5
          have RT5 := (RT.below (one_below _ _)).below b5
          clear x0 x1 x2 x3 x4 y0 y1 y2 y3 y4 z0 z1 z2 z3 z4 RX RY RZ hB HT4 b5 RT
          obtain ⟨⟨x0, x1, x2, x3, x4⟩, ⟨y0, y1, y2, y3, y4⟩, ⟨z0, z1, z2, z3, z4⟩, RX, RY, RZ, hB⟩ := HT5.out
          go_wp2_with fail
          with_reducible refine (cmp_rep _ _ _ _ _ (RM.below (one_below _ _)) (RX.below (one_below _ _))).mono ?_
          rintro e w6 ⟨rfl, b6⟩
          have HT6 := Lib.hid (HT5.out.next (on (one_below w5 (.cells #[.bool pM, .slice xM lM kM] 59)) b6))
          have ht6 := (ht5.next (one_below w5 (.cells #[.bool pM, .slice xM lM kM] 59))).next b6
          have RT6 := (RT5.below (one_below _ _)).below b6
          clear x0 x1 x2 x3 x4 y0 y1 y2 y3 y4 z0 z1 z2 z3 z4 RX RY RZ hB HT5 b6 RT5 ht5 RM
          obtain ⟨⟨x0, x1, x2, x3, x4⟩, ⟨y0, y1, y2, y3, y4⟩, ⟨z0, z1, z2, z3, z4⟩, RX, RY, RZ, hB⟩ := HT6.out
          obtain ⟨u0, u1, u2, u3, u4⟩ := ht6
          rw [HCe.out]
          have TT := HT6.out.store (by omega) (by omega) (by omega) RT6
          rw [← hcut.out] at TT
          have HTT := Lib.hid TT
          clear TT
          go_wp2
          go_roundw
          case rel => exact ⟨pT, xT, lT, kT, next_rel (P := fun j => Trio w1.heap.size w2.heap.size (w2.heap.size + 1) xA lA kA xB lB kB a.natAbs b.natAbs pT xT lT kT ((cut Q j : Nat) : Int) w _) hk HTT.out⟩
          case measure => simp [intOf]
        · have hq' : (k : Int) / 16 = 2 := by omega
          have hbl := Lib.hid hq
          go_wp2_with fail
          with_reducible refine (trim_bit wr hk _ (by unfold bitL; rw [hbl.out]; simp [cellU])).mono ?_
          rintro e w3 ⟨⟨v, rfl, Qb⟩, b3⟩
          obtain ⟨pC, xC, lC, kC, rfl, RC⟩ := Qb.form
          have HT3 := Lib.hid (HT.out.next (on (one_below wr _) b3))
          clear x0 x1 x2 x3 x4 y0 y1 y2 y3 y4 z0 z1 z2 z3 z4 RX RY RZ hB HT b3 hq hq' hsh
          obtain ⟨⟨x0, x1, x2, x3, x4⟩, ⟨y0, y1, y2, y3, y4⟩, ⟨z0, z1, z2, z3, z4⟩, RX, RY, RZ, hB⟩ := HT3.out
          go_wp2_with fail
          with_reducible refine (radd_rep _ _ _ _ _ (RZ.below (one_below _ _)) (RC.below (one_below _ _)) fz.out fb.out).mono ?_
          rintro e w4 ⟨⟨v, rfl, Qt⟩, b4⟩
          obtain ⟨pT, xT, lT, kT, rfl, RT⟩ := Qt.form
          rw [HTe.out] at RT
          have HT4 := Lib.hid (HT3.out.next (on (one_below w3 (.cells #[.bool pC, .slice xC lC kC] 59)) b4))
          clear x0 x1 x2 x3 x4 y0 y1 y2 y3 y4 z0 z1 z2 z3 z4 RX RY RZ hB HT3 b4 RC
          obtain ⟨⟨x0, x1, x2, x3, x4⟩, ⟨y0, y1, y2, y3, y4⟩, ⟨z0, z1, z2, z3, z4⟩, RX, RY, RZ, hB⟩ := HT4.out
          go_wp2_with fail
          with_reducible refine (rmul_rep _ _ _ _ _ (RT.below (one_below _ _)) (RY.below (one_below _ _)) ft.out fy.out).mono ?_
          rintro e w5 ⟨⟨v, rfl, Qm⟩, b5⟩
          obtain ⟨pM, xM, lM, kM, rfl, RM⟩ := Qm.form
          have HT5 := Lib.hid (HT4.out.next (on (one_below w4 (.cells #[.bool pT, .slice xT lT kT] 59)) b5))
          have ht5 := (box_new w4 pT xT lT kT).next b5
          have RT5 := (RT.below (one_below _ _)).below b5
          clear x0 x1 x2 x3 x4 y0 y1 y2 y3 y4 z0 z1 z2 z3 z4 RX RY RZ hB HT4 b5 RT
          obtain ⟨⟨x0, x1, x2, x3, x4⟩, ⟨y0, y1, y2, y3, y4⟩, ⟨z0, z1, z2, z3, z4⟩, RX, RY, RZ, hB⟩ := HT5.out
          go_wp2_with fail
          with_reducible refine (cmp_rep _ _ _ _ _ (RM.below (one_below _ _)) (RX.below (one_below _ _))).mono ?_
          rintro e w6 ⟨rfl, b6⟩
          have HT6 := Lib.hid (HT5.out.next (on (one_below w5 (.cells #[.bool pM, .slice xM lM kM] 59)) b6))
          have ht6 := (ht5.next (one_below w5 (.cells #[.bool pM, .slice xM lM kM] 59))).next b6
          have RT6 := (RT5.below (one_below _ _)).below b6
          clear x0 x1 x2 x3 x4 y0 y1 y2 y3 y4 z0 z1 z2 z3 z4 RX RY RZ hB HT5 b6 RT5 ht5 RM
          obtain ⟨⟨x0, x1, x2, x3, x4⟩, ⟨y0, y1, y2, y3, y4⟩, ⟨z0, z1, z2, z3, z4⟩, RX, RY, RZ, hB⟩ := HT6.out
          obtain ⟨u0, u1, u2, u3, u4⟩ := ht6
          rw [HCe.out]
          have TT := HT6.out.store (by omega) (by omega) (by omega) RT6
          rw [← hcut.out] at TT
          have HTT := Lib.hid TT
          clear TT
          go_wp2
          go_roundw
          case rel => exact ⟨pT, xT, lT, kT, next_rel (P := fun j => Trio w1.heap.size w2.heap.size (w2.heap.size + 1) xA lA kA xB lB kB a.natAbs b.natAbs pT xT lT kT ((cut Q j : Nat) : Int) w _) hk HTT.out⟩
          case measure => simp [intOf]
        · have hq' : (k : Int) / 16 = 3 := by omega
          have hbl := Lib.hid hq
          go_wp2_with fail
          with_reducible refine (trim_bit wr hk _ (by unfold bitL; rw [hbl.out]; simp [cellU])).mono ?_
          rintro e w3 ⟨⟨v, rfl, Qb⟩, b3⟩
          obtain ⟨pC, xC, lC, kC, rfl, RC⟩ := Qb.form
          have HT3 := Lib.hid (HT.out.next (on (one_below wr _) b3))
          clear x0 x1 x2 x3 x4 y0 y1 y2 y3 y4 z0 z1 z2 z3 z4 RX RY RZ hB HT b3 hq hq' hsh
          obtain ⟨⟨x0, x1, x2, x3, x4⟩, ⟨y0, y1, y2, y3, y4⟩, ⟨z0, z1, z2, z3, z4⟩, RX, RY, RZ, hB⟩ := HT3.out
          go_wp2_with fail
          with_reducible refine (radd_rep _ _ _ _ _ (RZ.below (one_below _ _)) (RC.below (one_below _ _)) fz.out fb.out).mono ?_
          rintro e w4 ⟨⟨v, rfl, Qt⟩, b4⟩
          obtain ⟨pT, xT, lT, kT, rfl, RT⟩ := Qt.form
          rw [HTe.out] at RT
          have HT4 := Lib.hid (HT3.out.next (on (one_below w3 (.cells #[.bool pC, .slice xC lC kC] 59)) b4))
          clear x0 x1 x2 x3 x4 y0 y1 y2 y3 y4 z0 z1 z2 z3 z4 RX RY RZ hB HT3 b4 RC
          obtain ⟨⟨x0, x1, x2, x3, x4⟩, ⟨y0, y1, y2, y3, y4⟩, ⟨z0, z1, z2, z3, z4⟩, RX, RY, RZ, hB⟩ := HT4.out
          go_wp2_with fail
          with_reducible refine (rmul_rep _ _ _ _ _ (RT.below (one_below _ _)) (RY.below (one_below _ _)) ft.out fy.out).mono ?_
          rintro e w5 ⟨⟨v, rfl, Qm⟩, b5⟩
          obtain ⟨pM, xM, lM, kM, rfl, RM⟩ := Qm.form
          have HT5 := Lib.hid (HT4.out.next (on (one_below w4 (.cells #[.bool pT, .slice xT lT kT] 59)) b5))
          have ht5 := (box_new w4 pT xT lT kT).next b5
          have RT5 := (RT.below (one_below _ _)).below b5
          clear x0 x1 x2 x3 x4 y0 y1 y2 y3 y4 z0 z1 z2 z3 z4 RX RY RZ hB HT4 b5 RT
          obtain ⟨⟨x0, x1, x2, x3, x4⟩, ⟨y0, y1, y2, y3, y4⟩, ⟨z0, z1, z2, z3, z4⟩, RX, RY, RZ, hB⟩ := HT5.out
          go_wp2_with fail
          with_reducible refine (cmp_rep _ _ _ _ _ (RM.below (one_below _ _)) (RX.below (one_below _ _))).mono ?_
          rintro e w6 ⟨rfl, b6⟩
          have HT6 := Lib.hid (HT5.out.next (on (one_below w5 (.cells #[.bool pM, .slice xM lM kM] 59)) b6))
          have ht6 := (ht5.next (one_below w5 (.cells #[.bool pM, .slice xM lM kM] 59))).next b6
          have RT6 := (RT5.below (one_below _ _)).below b6
          clear x0 x1 x2 x3 x4 y0 y1 y2 y3 y4 z0 z1 z2 z3 z4 RX RY RZ hB HT5 b6 RT5 ht5 RM
          obtain ⟨⟨x0, x1, x2, x3, x4⟩, ⟨y0, y1, y2, y3, y4⟩, ⟨z0, z1, z2, z3, z4⟩, RX, RY, RZ, hB⟩ := HT6.out
          obtain ⟨u0, u1, u2, u3, u4⟩ := ht6
          rw [HCe.out]
          have TT := HT6.out.store (by omega) (by omega) (by omega) RT6
          rw [← hcut.out] at TT
          have HTT := Lib.hid TT
          clear TT
          go_wp2
          go_roundw
          case rel => exact ⟨pT, xT, lT, kT, next_rel (P := fun j => Trio w1.heap.size w2.heap.size (w2.heap.size + 1) xA lA kA xB lB kB a.natAbs b.natAbs pT xT lT kT ((cut Q j : Nat) : Int) w _) hk HTT.out⟩
          case measure => simp [intOf]
      · have hcn : ¬ c ≤ 0 := by rw [hct]; exact hle
        have hcut : Hid (cut Q k = cut Q (k + 1)) := hc2.2 hle
        clear hc2 hT hp hcl hTb hce hct hle
        rcases (show k / 16 = 0 ∨ k / 16 = 1 ∨ k / 16 = 2 ∨ k / 16 = 3 by omega) with hq | hq | hq | hq
        · have hq' : (k : Int) / 16 = 0 := by omega
          have hbl := Lib.hid hq
          go_wp2_with fail
          with_reducible refine (trim_bit wr hk _ (by unfold bitL; rw [hbl.out]; simp [cellU])).mono ?_
          rintro e w3 ⟨⟨v, rfl, Qb⟩, b3⟩
          obtain ⟨pC, xC, lC, kC, rfl, RC⟩ := Qb.form
          have HT3 := Lib.hid (HT.out.next (on (one_below wr _) b3))
          clear x0 x1 x2 x3 x4 y0 y1 y2 y3 y4 z0 z1 z2 z3 z4 RX RY RZ hB HT b3 hq hq' hsh
          obtain ⟨⟨x0, x1, x2, x3, x4⟩, ⟨y0, y1, y2, y3, y4⟩, ⟨z0, z1, z2, z3, z4⟩, RX, RY, RZ, hB⟩ := HT3.out
          go_wp2_with fail
          with_reducible refine (radd_rep _ _ _ _ _ (RZ.below (one_below _ _)) (RC.below (one_below _ _)) fz.out fb.out).mono ?_
          rintro e w4 ⟨⟨v, rfl, Qt⟩, b4⟩
          obtain ⟨pT, xT, lT, kT, rfl, RT⟩ := Qt.form
          rw [HTe.out] at RT
          have HT4 := Lib.hid (HT3.out.next (on (one_below w3 (.cells #[.bool pC, .slice xC lC kC] 59)) b4))
          clear x0 x1 x2 x3 x4 y0 y1 y2 y3 y4 z0 z1 z2 z3 z4 RX RY RZ hB HT3 b4 RC
          obtain ⟨⟨x0, x1, x2, x3, x4⟩, ⟨y0, y1, y2, y3, y4⟩, ⟨z0, z1, z2, z3, z4⟩, RX, RY, RZ, hB⟩ := HT4.out
          go_wp2_with fail
          with_reducible refine (rmul_rep _ _ _ _ _ (RT.below (one_below _ _)) (RY.below (one_below _ _)) ft.out fy.out).mono ?_
          rintro e w5 ⟨⟨v, rfl, Qm⟩, b5⟩
          obtain ⟨pM, xM, lM, kM, rfl, RM⟩ := Qm.form
          have HT5 := Lib.hid (HT4.out.next (on (one_below w4 (.cells #[.bool pT, .slice xT lT kT] 59)) b5))
          have ht5 := (box_new w4 pT xT lT kT).next b5
          have RT5 := (RT.below (one_below _ _)).below b5
          clear x0 x1 x2 x3 x4 y0 y1 y2 y3 y4 z0 z1 z2 z3 z4 RX RY RZ hB HT4 b5 RT
          obtain ⟨⟨x0, x1, x2, x3, x4⟩, ⟨y0, y1, y2, y3, y4⟩, ⟨z0, z1, z2, z3, z4⟩, RX, RY, RZ, hB⟩ := HT5.out
          go_wp2_with fail
          with_reducible refine (cmp_rep _ _ _ _ _ (RM.below (one_below _ _)) (RX.below (one_below _ _))).mono ?_
          rintro e w6 ⟨rfl, b6⟩
          have HT6 := Lib.hid (HT5.out.next (on (one_below w5 (.cells #[.bool pM, .slice xM lM kM] 59)) b6))
          have ht6 := (ht5.next (one_below w5 (.cells #[.bool pM, .slice xM lM kM] 59))).next b6
          have RT6 := (RT5.below (one_below _ _)).below b6
          clear x0 x1 x2 x3 x4 y0 y1 y2 y3 y4 z0 z1 z2 z3 z4 RX RY RZ hB HT5 b6 RT5 ht5 RM
          obtain ⟨⟨x0, x1, x2, x3, x4⟩, ⟨y0, y1, y2, y3, y4⟩, ⟨z0, z1, z2, z3, z4⟩, RX, RY, RZ, hB⟩ := HT6.out
          obtain ⟨u0, u1, u2, u3, u4⟩ := ht6
          rw [HCe.out]
          have TT := HT6.out
          rw [← hcut.out] at TT
          have HTT := Lib.hid TT
          clear TT
          go_wp2
          go_roundw
          case rel => exact ⟨pz, xz, lz, kz, next_rel (P := fun j => Trio w1.heap.size w2.heap.size (w2.heap.size + 1) xA lA kA xB lB kB a.natAbs b.natAbs pz xz lz kz ((cut Q j : Nat) : Int) w _) hk HTT.out⟩
          case measure => simp [intOf]
        · have hq' : (k : Int) / 16 = 1 := by omega
          have hbl := Lib.hid hq
          go_wp2_with fail
          with_reducible refine (trim_bit wr hk _ (by unfold bitL; rw [hbl.out]; simp [cellU])).mono ?_
          rintro e w3 ⟨⟨v, rfl, Qb⟩, b3⟩
          obtain ⟨pC, xC, lC, kC, rfl, RC⟩ := Qb.form
          have HT3 := Lib.hid (HT.out.next (on (one_below wr _) b3))
          clear x0 x1 x2 x3 x4 y0 y1 y2 y3 y4 z0 z1 z2 z3 z4 RX RY RZ hB HT b3 hq hq' hsh
          obtain ⟨⟨x0, x1, x2, x3, x4⟩, ⟨y0, y1, y2, y3, y4⟩, ⟨z0, z1, z2, z3, z4⟩, RX, RY, RZ, hB⟩ := HT3.out
          go_wp2_with fail
          with_reducible refine (radd_rep _ _ _ _ _ (RZ.below (one_below _ _)) (RC.below (one_below _ _)) fz.out fb.out).mono ?_
          rintro e w4 ⟨⟨v, rfl, Qt⟩, b4⟩
          obtain ⟨pT, xT, lT, kT, rfl, RT⟩ := Qt.form
          rw [HTe.out] at RT
          have HT4 := Lib.hid (HT3.out.next (on (one_below w3 (.cells #[.bool pC, .slice xC lC kC] 59)) b4))
          clear x0 x1 x2 x3 x4 y0 y1 y2 y3 y4 z0 z1 z2 z3 z4 RX RY RZ hB HT3 b4 RC
          obtain ⟨⟨x0, x1, x2, x3, x4⟩, ⟨y0, y1, y2, y3, y4⟩, ⟨z0, z1, z2, z3, z4⟩, RX, RY, RZ, hB⟩ := HT4.out
          go_wp2_with fail
          with_reducible refine (rmul_rep _ _ _ _ _ (RT.below (one_below _ _)) (RY.below (one_below _ _)) ft.out fy.out).mono ?_
          rintro e w5 ⟨⟨v, rfl, Qm⟩, b5⟩
          obtain ⟨pM, xM, lM, kM, rfl, RM⟩ := Qm.form
          have HT5 := Lib.hid (HT4.out.next (on (one_below w4 (.cells #[.bool pT, .slice xT lT kT] 59)) b5))
          have ht5 := (box_new w4 pT xT lT kT).next b5
          have RT5 := (RT.below (one_below _ _)).below b5
          clear x0 x1 x2 x3 x4 y0 y1 y2 y3 y4 z0 z1 z2 z3 z4 RX RY RZ hB HT4 b5 RT
          obtain ⟨⟨x0, x1, x2, x3, x4⟩, ⟨y0, y1, y2, y3, y4⟩, ⟨z0, z1, z2, z3, z4⟩, RX, RY, RZ, hB⟩ := HT5.out
          go_wp2_with fail
          with_reducible refine (cmp_rep _ _ _ _ _ (RM.below (one_below _ _)) (RX.below (one_below _ _))).mono ?_
          rintro e w6 ⟨rfl, b6⟩
          have HT6 := Lib.hid (HT5.out.next (on (one_below w5 (.cells #[.bool pM, .slice xM lM kM] 59)) b6))
          have ht6 := (ht5.next (one_below w5 (.cells #[.bool pM, .slice xM lM kM] 59))).next b6
          have RT6 := (RT5.below (one_below _ _)).below b6
          clear x0 x1 x2 x3 x4 y0 y1 y2 y3 y4 z0 z1 z2 z3 z4 RX RY RZ hB HT5 b6 RT5 ht5 RM
          obtain ⟨⟨x0, x1, x2, x3, x4⟩, ⟨y0, y1, y2, y3, y4⟩, ⟨z0, z1, z2, z3, z4⟩, RX, RY, RZ, hB⟩ := HT6.out
          obtain ⟨u0, u1, u2, u3, u4⟩ := ht6
          rw [HCe.out]
          have TT := HT6.out
          rw [← hcut.out] at TT
          have HTT := Lib.hid TT
          clear TT
          go_wp2
          go_roundw
          case rel => exact ⟨pz, xz, lz, kz, next_rel (P := fun j => Trio w1.heap.size w2.heap.size (w2.heap.size + 1) xA lA kA xB lB kB a.natAbs b.natAbs pz xz lz kz ((cut Q j : Nat) : Int) w _) hk HTT.out⟩
          case measure => simp [intOf]
        · have hq' : (k : Int) / 16 = 2 := by omega
          have hbl := Lib.hid hq
          go_wp2_with fail
          with_reducible refine (trim_bit wr hk _ (by unfold bitL; rw [hbl.out]; simp [cellU])).mono ?_
          rintro e w3 ⟨⟨v, rfl, Qb⟩, b3⟩
          obtain ⟨pC, xC, lC, kC, rfl, RC⟩ := Qb.form
          have HT3 := Lib.hid (HT.out.next (on (one_below wr _) b3))
          clear x0 x1 x2 x3 x4 y0 y1 y2 y3 y4 z0 z1 z2 z3 z4 RX RY RZ hB HT b3 hq hq' hsh
          obtain ⟨⟨x0, x1, x2, x3, x4⟩, ⟨y0, y1, y2, y3, y4⟩, ⟨z0, z1, z2, z3, z4⟩, RX, RY, RZ, hB⟩ := HT3.out
          go_wp2_with fail
          with_reducible refine (radd_rep _ _ _ _ _ (RZ.below (one_below _ _)) (RC.below (one_below _ _)) fz.out fb.out).mono ?_
          rintro e w4 ⟨⟨v, rfl, Qt⟩, b4⟩
          obtain ⟨pT, xT, lT, kT, rfl, RT⟩ := Qt.form
          rw [HTe.out] at RT
          have HT4 := Lib.hid (HT3.out.next (on (one_below w3 (.cells #[.bool pC, .slice xC lC kC] 59)) b4))
          clear x0 x1 x2 x3 x4 y0 y1 y2 y3 y4 z0 z1 z2 z3 z4 RX RY RZ hB HT3 b4 RC
          obtain ⟨⟨x0, x1, x2, x3, x4⟩, ⟨y0, y1, y2, y3, y4⟩, ⟨z0, z1, z2, z3, z4⟩, RX, RY, RZ, hB⟩ := HT4.out
          go_wp2_with fail
          with_reducible refine (rmul_rep _ _ _ _ _ (RT.below (one_below _ _)) (RY.below (one_below _ _)) ft.out fy.out).mono ?_
          rintro e w5 ⟨⟨v, rfl, Qm⟩, b5⟩
          obtain ⟨pM, xM, lM, kM, rfl, RM⟩ := Qm.form
          have HT5 := Lib.hid (HT4.out.next (on (one_below w4 (.cells #[.bool pT, .slice xT lT kT] 59)) b5))
          have ht5 := (box_new w4 pT xT lT kT).next b5
          have RT5 := (RT.below (one_below _ _)).below b5
          clear x0 x1 x2 x3 x4 y0 y1 y2 y3 y4 z0 z1 z2 z3 z4 RX RY RZ hB HT4 b5 RT
          obtain ⟨⟨x0, x1, x2, x3, x4⟩, ⟨y0, y1, y2, y3, y4⟩, ⟨z0, z1, z2, z3, z4⟩, RX, RY, RZ, hB⟩ := HT5.out
          go_wp2_with fail
          with_reducible refine (cmp_rep _ _ _ _ _ (RM.below (one_below _ _)) (RX.below (one_below _ _))).mono ?_
          rintro e w6 ⟨rfl, b6⟩
          have HT6 := Lib.hid (HT5.out.next (on (one_below w5 (.cells #[.bool pM, .slice xM lM kM] 59)) b6))
          have ht6 := (ht5.next (one_below w5 (.cells #[.bool pM, .slice xM lM kM] 59))).next b6
          have RT6 := (RT5.below (one_below _ _)).below b6
          clear x0 x1 x2 x3 x4 y0 y1 y2 y3 y4 z0 z1 z2 z3 z4 RX RY RZ hB HT5 b6 RT5 ht5 RM
          obtain ⟨⟨x0, x1, x2, x3, x4⟩, ⟨y0, y1, y2, y3, y4⟩, ⟨z0, z1, z2, z3, z4⟩, RX, RY, RZ, hB⟩ := HT6.out
          obtain ⟨u0, u1, u2, u3, u4⟩ := ht6
          rw [HCe.out]
          have TT := HT6.out
          rw [← hcut.out] at TT
          have HTT := Lib.hid TT
          clear TT
          go_wp2
          go_roundw
          case rel => exact ⟨pz, xz, lz, kz, next_rel (P := fun j => Trio w1.heap.size w2.heap.size (w2.heap.size + 1) xA lA kA xB lB kB a.natAbs b.natAbs pz xz lz kz ((cut Q j : Nat) : Int) w _) hk HTT.out⟩
          case measure => simp [intOf]
        · have hq' : (k : Int) / 16 = 3 := by omega
          have hbl := Lib.hid hq
          go_wp2_with fail
          with_reducible refine (trim_bit wr hk _ (by unfold bitL; rw [hbl.out]; simp [cellU])).mono ?_
          rintro e w3 ⟨⟨v, rfl, Qb⟩, b3⟩
          obtain ⟨pC, xC, lC, kC, rfl, RC⟩ := Qb.form
          have HT3 := Lib.hid (HT.out.next (on (one_below wr _) b3))
          clear x0 x1 x2 x3 x4 y0 y1 y2 y3 y4 z0 z1 z2 z3 z4 RX RY RZ hB HT b3 hq hq' hsh
          obtain ⟨⟨x0, x1, x2, x3, x4⟩, ⟨y0, y1, y2, y3, y4⟩, ⟨z0, z1, z2, z3, z4⟩, RX, RY, RZ, hB⟩ := HT3.out
          go_wp2_with fail
          with_reducible refine (radd_rep _ _ _ _ _ (RZ.below (one_below _ _)) (RC.below (one_below _ _)) fz.out fb.out).mono ?_
          rintro e w4 ⟨⟨v, rfl, Qt⟩, b4⟩
          obtain ⟨pT, xT, lT, kT, rfl, RT⟩ := Qt.form
          rw [HTe.out] at RT
          have HT4 := Lib.hid (HT3.out.next (on (one_below w3 (.cells #[.bool pC, .slice xC lC kC] 59)) b4))
          clear x0 x1 x2 x3 x4 y0 y1 y2 y3 y4 z0 z1 z2 z3 z4 RX RY RZ hB HT3 b4 RC
          obtain ⟨⟨x0, x1, x2, x3, x4⟩, ⟨y0, y1, y2, y3, y4⟩, ⟨z0, z1, z2, z3, z4⟩, RX, RY, RZ, hB⟩ := HT4.out
          go_wp2_with fail
          with_reducible refine (rmul_rep _ _ _ _ _ (RT.below (one_below _ _)) (RY.below (one_below _ _)) ft.out fy.out).mono ?_
          rintro e w5 ⟨⟨v, rfl, Qm⟩, b5⟩
          obtain ⟨pM, xM, lM, kM, rfl, RM⟩ := Qm.form
          have HT5 := Lib.hid (HT4.out.next (on (one_below w4 (.cells #[.bool pT, .slice xT lT kT] 59)) b5))
          have ht5 := (box_new w4 pT xT lT kT).next b5
          have RT5 := (RT.below (one_below _ _)).below b5
          clear x0 x1 x2 x3 x4 y0 y1 y2 y3 y4 z0 z1 z2 z3 z4 RX RY RZ hB HT4 b5 RT
          obtain ⟨⟨x0, x1, x2, x3, x4⟩, ⟨y0, y1, y2, y3, y4⟩, ⟨z0, z1, z2, z3, z4⟩, RX, RY, RZ, hB⟩ := HT5.out
          go_wp2_with fail
          with_reducible refine (cmp_rep _ _ _ _ _ (RM.below (one_below _ _)) (RX.below (one_below _ _))).mono ?_
          rintro e w6 ⟨rfl, b6⟩
          have HT6 := Lib.hid (HT5.out.next (on (one_below w5 (.cells #[.bool pM, .slice xM lM kM] 59)) b6))
          have ht6 := (ht5.next (one_below w5 (.cells #[.bool pM, .slice xM lM kM] 59))).next b6
          have RT6 := (RT5.below (one_below _ _)).below b6
          clear x0 x1 x2 x3 x4 y0 y1 y2 y3 y4 z0 z1 z2 z3 z4 RX RY RZ hB HT5 b6 RT5 ht5 RM
          obtain ⟨⟨x0, x1, x2, x3, x4⟩, ⟨y0, y1, y2, y3, y4⟩, ⟨z0, z1, z2, z3, z4⟩, RX, RY, RZ, hB⟩ := HT6.out
          obtain ⟨u0, u1, u2, u3, u4⟩ := ht6
          rw [HCe.out]
          have TT := HT6.out
          rw [← hcut.out] at TT
          have HTT := Lib.hid TT
          clear TT
          go_wp2
          go_roundw
          case rel => exact ⟨pz, xz, lz, kz, next_rel (P := fun j => Trio w1.heap.size w2.heap.size (w2.heap.size + 1) xA lA kA xB lB kB a.natAbs b.natAbs pz xz lz kz ((cut Q j : Nat) : Int) w _) hk HTT.out⟩
          case measure => simp [intOf]

theorem rfloor_zero (a : Int) (up : Bool) (w : World) :
    Calls Tryd.prog 46 #[.int .i64 a, .int .i64 0, .bool up] w fun e w' => e = .returned (.tuple #[.int .i64 0, .bool false]) ∧ w = w' := by
  go_enter Tryd.func46, Tryd.ntmps46
  go_wp2
  go_ret2
  exact ⟨rfl, rfl⟩
end Go.Proofs.YtjaabjehegcnaaaDoor
