/-
  What the sums of lists do: num.total, num.Sum; the document's Sum.
-/
import Derived.Test.YtbkfmkbjfifgjaaNumWalks3
import Derived.Test.YtbkfmkbjfifgjaaBigWalks8
namespace Go.Proofs.Ytbkfmkbjfifgjaa
open Go.RowKit

/-- The sum of the first k. -/
def sumTo (zs : List Int) (k : Nat) : Int := (zs.take k).sum
theorem sumTo_zero (zs : List Int) : sumTo zs 0 = 0 := by simp [sumTo]
theorem sumTo_succ {zs : List Int} {k : Nat} (h : k < zs.length) : sumTo zs (k + 1) = sumTo zs k + zs.getD k 0 := by
  unfold sumTo
  rw [List.take_succ_eq_append_getElem h, List.sum_append]
  simp [List.getD_eq_getElem?_getD, h]
theorem sumTo_bd {zs : List Int} (hz : ∀ z ∈ zs, I64 z) {k : Nat} (hk : k ≤ zs.length) : -(9223372036854775808 * (k : Int)) ≤ sumTo zs k ∧ sumTo zs k ≤ 9223372036854775808 * (k : Int) := by
  induction k with
  | zero => rw [sumTo_zero]; simp
  | succ k ih =>
    have := ih (by omega)
    have h1 : I64 (zs.getD k 0) := by
      rw [List.getD_eq_getElem?_getD, List.getElem?_eq_getElem (by omega)]
      exact hz _ (List.getElem_mem _)
    obtain ⟨a, b⟩ := h1
    rw [sumTo_succ (by omega)]
    omega
theorem sumTo_in {zs : List Int} (hz : ∀ z ∈ zs, I64 z) {k : Nat} (hk : k ≤ zs.length) (h100 : k ≤ 100) : W128 (sumTo zs k) ∧ Few (sumTo zs k) := by
  have := sumTo_bd hz hk
  exact ⟨by unfold W128; omega, few_of 8 (by omega) (by omega)⟩

/-- The slice (x, len) has the first len of zs for its elements. -/
structure Nums (w : World) (x : Option Addr) (len : Nat) (zs : List Int) : Prop where
  mk ::
  le : len ≤ zs.length
  ok : ∀ z ∈ zs, I64 z
  at_ : 0 < len → ∃ b off, x = some ⟨b, off, none⟩ ∧ b < w.heap.size ∧ ∀ i, i < len → w.cell? ⟨b, off + i, none⟩ = some (.int .i64 (zs.getD i 0))
theorem Nums.below {w w' : World} {x : Option Addr} {len : Nat} {zs : List Int} (h : Nums w x len zs) (hb : Below w.heap.size w w') : Nums w' x len zs := by
  refine ⟨h.le, h.ok, fun h0 => ?_⟩
  obtain ⟨b, off, h1, h2, h3⟩ := h.at_ h0
  exact ⟨b, off, h1, Nat.lt_of_lt_of_le h2 hb.size, fun i hi => by rw [hb.cell (by exact h2)]; exact h3 i hi⟩
theorem Nums.get {w : World} {x : Option Addr} {len : Nat} {zs : List Int} (h : Nums w x len zs) {k : Nat} (hk : k < len) : I64 (zs.getD k 0) := by
  have := h.le
  rw [List.getD_eq_getElem?_getD, List.getElem?_eq_getElem (by omega)]
  exact h.ok _ (List.getElem_mem _)

/-- A number of 128 bits in a variable of its own. -/
structure WAt (n : Nat) (s : Int) (w : World) : Prop where
  mk ::
  c0 : w.cell? ⟨n, 0, none⟩ = some (.int .i64 (hi64 s))
  c1 : w.cell? ⟨n, 1, none⟩ = some (.int .u64 (lo64 s))
  f0 : w.frozen? ⟨n, 0, none⟩ = false
  f1 : w.frozen? ⟨n, 1, none⟩ = false
  size : n < w.heap.size
theorem WAt.next {n : Nat} {s : Int} {w w' : World} (h : WAt n s w) (hb : Below w.heap.size w w') : WAt n s w' :=
  ⟨by rw [hb.cell (by exact h.size)]; exact h.c0, by rw [hb.cell (by exact h.size)]; exact h.c1, by rw [hb.frozen (by exact h.size)]; exact h.f0, by rw [hb.frozen (by exact h.size)]; exact h.f1, Nat.lt_of_lt_of_le h.size hb.size⟩
theorem WAt.drew {n : Nat} {s : Int} {w : World} (h : WAt n s w) : WAt n s w.drew := ⟨h.c0, h.c1, h.f0, h.f1, h.size⟩
theorem wat_new (w : World) : WAt w.heap.size 0 (w.alloc (.cells #[.int .i64 0, .int .u64 0] 48)) :=
  ⟨by simp [go_sem, hi64], by simp [go_sem, lo64], by simp [go_sem], by simp [go_sem], by simp⟩
theorem wat_new2 (w : World) (o : Obj) : WAt (w.heap.size + 1) 0 ((w.alloc o).alloc (.cells #[.int .i64 0, .int .u64 0] 48)) :=
  ⟨by simp [go_sem, hi64], by simp [go_sem, lo64], by simp [go_sem], by simp [go_sem], by simp⟩

theorem WAt.store {n : Nat} {s s' : Int} {w : World} (h : WAt n s w) : WAt n s' ((w.setCell ⟨n, 0, none⟩ (.int .i64 (hi64 s'))).setCell ⟨n, 1, none⟩ (.int .u64 (lo64 s'))) := by
  obtain ⟨c0, c1, f0, f1, hs⟩ := h
  exact ⟨by simp [go_sem, c0], by simp [go_sem, c1], by simpa [go_sem] using f0, by simpa [go_sem] using f1, by simpa [World.setCell] using hs⟩
theorem WAt.other {n n' : Nat} {s : Int} {w : World} (h : WAt n s w) (hne : n ≠ n') {u v : Value} : WAt n s ((w.setCell ⟨n', 0, none⟩ u).setCell ⟨n', 1, none⟩ v) := by
  have e : ((w.setCell ⟨n', 0, none⟩ u).setCell ⟨n', 1, none⟩ v).heap[n]? = w.heap[n]? := by
    rw [Below.heap_setCell _ _ _ _ hne, Below.heap_setCell _ _ _ _ hne]
  exact ⟨by rw [World.cell?_of_block (w := w) (a := ⟨n, 0, none⟩) e]; exact h.c0, by rw [World.cell?_of_block (w := w) (a := ⟨n, 1, none⟩) e]; exact h.c1,
    by rw [World.frozen?_of_block (w := w) (a := ⟨n, 0, none⟩) e]; exact h.f0, by rw [World.frozen?_of_block (w := w) (a := ⟨n, 1, none⟩) e]; exact h.f1, by simpa [World.setCell] using h.size⟩

set_option maxHeartbeats 2000000 in
theorem total_any (x : Option Addr) (len cap : Nat) (zs : List Int) (w : World) (h : Nums w x len zs) (h100 : len ≤ 100) :
    Calls Try.prog 39 #[.slice x len cap] w fun e w' => e = .returned (.agg #[.int .i64 (hi64 (sumTo zs len)), .int .u64 (lo64 (sumTo zs len))]) ∧ Below w.heap.size w w' := by
  go_enter Try.func39, Try.ntmps39
  go_wp2
  go_loopw [8] (fun i wr => ∃ k : Nat, k ≤ len ∧ i = .int .i64 k ∧ WAt (w.heap.size + 1) (sumTo zs k) wr ∧ WAt w.heap.size 0 wr ∧ Below w.heap.size w wr) (fun i _ => len - (intOf i).toNat)
  case atStart => exact ⟨0, by omega, rfl, by rw [sumTo_zero]; exact wat_new2 w _, (wat_new w).next (one_below _ _), two_below w _ _⟩
  case round =>
    obtain ⟨k, hk, rfl, hT, hR, hB⟩ := hrel
    have hN := h.below hB
    by_cases hlt : k < len
    · obtain ⟨b, off, hx, hb, hc⟩ := hN.at_ (by omega)
      subst hx
      have hck := hc k hlt
      have hz := hN.get hlt
      have hs1 := (sumTo_in h.ok (k := k + 1) (by have := h.le; omega) (by omega)).1
      rw [sumTo_succ (by have := h.le; omega)] at hs1
      obtain ⟨z, hze⟩ : ∃ z, zs.getD k 0 = z := ⟨_, rfl⟩
      obtain ⟨s, hse⟩ : ∃ s, sumTo zs k = s := ⟨_, rfl⟩
      have hnext : Hid (sumTo zs (k + 1) = s + z) := by show _ = _; rw [sumTo_succ (by have := h.le; omega), hze, hse]
      rw [hze] at hck hz hs1
      rw [hse] at hT hs1
      clear hc hze hse hN
      have HT := Lib.hid hT
      have HR := Lib.hid hR
      have HB := Lib.hid hB
      obtain ⟨t0, t1, t2, t3, t4⟩ := hT
      clear hR hB
      go_wp2
      go_region_with (first
        | (go_at_call 32; (with_reducible refine (widen_any z hz _).mono ?_); rintro e w1 ⟨rfl, b1⟩; have HT1 := Lib.hid (HT.out.drew.next b1); obtain ⟨u0, u1, u2, u3, u4⟩ := HT1.out)
        | (go_at_call 33; (with_reducible refine (plus_any s z hs1 _).mono ?_); rintro e w2 ⟨rfl, b2⟩; have HT2 := Lib.hid (HT1.out.next b2); obtain ⟨y0, y1, y2, y3, y4⟩ := HT2.out))
      all_goals
        have HR2 := Lib.hid ((HR.out.drew.next b1).next b2)
        have HB2 := Lib.hid (on (on HB.out.drew b1) b2)
        clear b1 b2 u0 u1 u2 u3 u4 t0 t1 t2 t3 t4 HT1 HT HR HB
        go_wp2
        go_roundw
        case rel => exact ⟨k + 1, by omega, by go_num, by rw [hnext.out]; exact HT2.out.store, HR2.out.other (by omega), (HB2.out.setCell (by show w.heap.size ≤ w.heap.size + 1; omega) _).setCell (by show w.heap.size ≤ w.heap.size + 1; omega) _⟩
        case measure => simp [intOf]; omega
    · obtain rfl : k = len := by omega
      have HR := Lib.hid hR
      have HT := Lib.hid hT
      have HB := Lib.hid hB
      obtain ⟨t0, t1, t2, t3, t4⟩ := hT
      obtain ⟨r0, r1, r2, r3, r4⟩ := hR
      clear hB hN
      go_wp2
      exact bodyPost_ret (v := .agg #[.int .i64 (hi64 (sumTo zs k)), .int .u64 (lo64 (sumTo zs k))]) (by simp [results, Try.results39, go_sem, r0, r1]) rfl ⟨rfl, (HB.out.setCell (Nat.le_refl _) _).setCell (Nat.le_refl _) _⟩

theorem sum_any (x : Option Addr) (len cap : Nat) (zs : List Int) (w : World) (h : Nums w x len zs) (h100 : len ≤ 100) :
    Calls Try.prog 20 #[.slice x len cap] w fun e w' => e = .returned (.tuple #[.int .i64 (fit (sumTo zs len)), .bool (fitB (sumTo zs len))]) ∧ Below w.heap.size w w' := by
  go_enter Try.func20, Try.ntmps20
  go_wp2_with fail
  with_reducible refine (total_any x len cap zs _ h h100).mono ?_
  rintro e w1 ⟨rfl, b1⟩
  go_wp2_with fail
  with_reducible refine (narrow_any (sumTo zs len) _).mono ?_
  rintro e w2 ⟨rfl, b2⟩
  go_wp2
  go_ret2
  exact ⟨rfl, on b1 b2⟩

/-- A number in a variable of its own that may be written. -/
structure BoxAt (n : Nat) (p : Bool) (x : Option Addr) (l k : Nat) (w : World) : Prop where
  mk ::
  c0 : w.cell? ⟨n, 0, none⟩ = some (.bool p)
  c1 : w.cell? ⟨n, 1, none⟩ = some (.slice x l k)
  f0 : w.frozen? ⟨n, 0, none⟩ = false
  f1 : w.frozen? ⟨n, 1, none⟩ = false
  size : n < w.heap.size
theorem BoxAt.next {n : Nat} {p : Bool} {x : Option Addr} {l k : Nat} {w w' : World} (h : BoxAt n p x l k w) (hb : Below w.heap.size w w') : BoxAt n p x l k w' :=
  ⟨by rw [hb.cell (by exact h.size)]; exact h.c0, by rw [hb.cell (by exact h.size)]; exact h.c1, by rw [hb.frozen (by exact h.size)]; exact h.f0, by rw [hb.frozen (by exact h.size)]; exact h.f1, Nat.lt_of_lt_of_le h.size hb.size⟩
theorem BoxAt.store {n : Nat} {p p' : Bool} {x x' : Option Addr} {l l' k k' : Nat} {w : World} (h : BoxAt n p x l k w) : BoxAt n p' x' l' k' ((w.setCell ⟨n, 0, none⟩ (.bool p')).setCell ⟨n, 1, none⟩ (.slice x' l' k')) := by
  obtain ⟨c0, c1, f0, f1, hs⟩ := h
  exact ⟨by simp [go_sem, c0], by simp [go_sem, c1], by simpa [go_sem] using f0, by simpa [go_sem] using f1, by simpa [World.setCell] using hs⟩
theorem box_new (w : World) (p : Bool) (x : Option Addr) (l k : Nat) : BoxAt w.heap.size p x l k (w.alloc (.cells #[.bool p, .slice x l k] 24)) :=
  ⟨by simp [go_sem], by simp [go_sem], by simp [go_sem], by simp [go_sem], by simp⟩
theorem Rep.store {w : World} {v : Value} {z : Int} {n : Nat} {p : Bool} (h : Rep w v z) (hc : w.cell? ⟨n, 0, none⟩ = some (.bool p)) (u u' : Value) : Rep ((w.setCell ⟨n, 0, none⟩ u).setCell ⟨n, 1, none⟩ u') v z := by
  obtain ⟨x, c, h1, h2⟩ := h
  exact ⟨x, c, h1, h2.store hc u u'⟩
theorem rep_zero (w : World) : Rep w (.agg #[.bool false, .slice none 0 0]) 0 :=
  ⟨none, 0, by simp [dig_zero], Or.inl ⟨rfl, rfl, by simp [dig_zero]⟩⟩

/-- What the loops over a list keep: the number in block n is s. -/
def Sumd (n : Nat) (s : Int) (w : World) : Prop := ∃ p x l k, BoxAt n p x l k w ∧ Rep w (.agg #[.bool p, .slice x l k]) s

set_option maxHeartbeats 2000000 in
theorem rsum_any (x : Option Addr) (len cap : Nat) (zs : List Int) (w : World) (h : Nums w x len zs) (h100 : len ≤ 100) :
    Calls Try.prog 21 #[.slice x len cap] w fun e w' => e = .returned (.tuple #[.int .i64 (fit (sumTo zs len)), .bool (fitB (sumTo zs len))]) ∧ Below w.heap.size w w' := by
  go_enter Try.func21, Try.ntmps21
  go_wp2
  go_loopw [5] (fun i wr => ∃ k : Nat, k ≤ len ∧ i = .int .i64 k ∧ Sumd w.heap.size (sumTo zs k) wr ∧ Below w.heap.size w wr) (fun i _ => len - (intOf i).toNat)
  case atStart => exact ⟨0, by omega, rfl, ⟨_, _, _, _, box_new w _ _ _ _, by rw [sumTo_zero]; exact rep_zero _⟩, one_below w _⟩
  case round =>
    obtain ⟨k, hk, rfl, ⟨pS, xS, lS, kS, hS, RS⟩, hB⟩ := hrel
    have hN := h.below hB
    have hf := (sumTo_in h.ok (k := k) (by have := h.le; omega) (by omega)).2
    by_cases hlt : k < len
    · obtain ⟨b, off, hx, hb, hc⟩ := hN.at_ (by omega)
      subst hx
      have hck := hc k hlt
      have hz := hN.get hlt
      have fz := few_i64 hz
      obtain ⟨z, hze⟩ : ∃ z, zs.getD k 0 = z := ⟨_, rfl⟩
      obtain ⟨s, hse⟩ : ∃ s, sumTo zs k = s := ⟨_, rfl⟩
      have hnext : Hid (sumTo zs (k + 1) = s + z) := by show _ = _; rw [sumTo_succ (by have := h.le; omega), hze, hse]
      rw [hze] at hck hz fz
      rw [hse] at RS hf
      clear hc hze hse hN
      have HS := Lib.hid hS
      obtain ⟨t0, t1, t2, t3, t4⟩ := hS
      go_wp2_with fail
      with_reducible refine (of_any z hz _).mono ?_
      rintro e w1 ⟨⟨v, rfl, Q⟩, b1⟩
      obtain ⟨pX, xX, lX, kX, rfl, RX⟩ := Q.form
      have HS1 := HS.out.next b1
      have RS1 := RS.below b1
      have B1 := on hB b1
      clear t0 t1 t2 t3 t4 HS RS hB b1 hck
      have HS := Lib.hid HS1
      obtain ⟨t0, t1, t2, t3, t4⟩ := HS1
      go_wp2_with fail
      with_reducible refine (radd_rep s z _ _ _ (RS1.below (one_below _ _)) (RX.below (one_below _ _)) hf fz).mono ?_
      rintro e w2 ⟨⟨v, rfl, Q⟩, b2⟩
      obtain ⟨pY, xY, lY, kY, rfl, RY⟩ := Q.form
      have HS2 := (HS.out.next (one_below _ _)).next b2
      have B2 := on (on B1 (one_below _ _)) b2
      clear t0 t1 t2 t3 t4 HS RS1 B1 b2 RX
      have HS := Lib.hid HS2
      obtain ⟨t0, t1, t2, t3, t4⟩ := HS2
      go_wp2
      go_roundw
      case rel => exact ⟨k + 1, by omega, by go_num, ⟨pY, xY, lY, kY, HS.out.store, by rw [hnext.out]; exact RY.store t0 _ _⟩, (B2.setCell (Nat.le_refl _) _).setCell (Nat.le_refl _) _⟩
      case measure => simp [intOf]; omega
    · obtain rfl : k = len := by omega
      obtain ⟨t0, t1, t2, t3, t4⟩ := hS
      clear hN
      go_wp2_with fail
      with_reducible refine (short_rep _ _ _ RS).mono ?_
      rintro e w1 ⟨rfl, b1⟩
      have B1 := on hB b1
      clear t0 t1 t2 t3 t4 RS hB b1
      go_wp2
      go_ret2
      exact ⟨rfl, B1⟩
end Go.Proofs.Ytbkfmkbjfifgjaa
