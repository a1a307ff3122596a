/-
  BitsetParts: of two sets of one size as many are in one of both as in each, less those in both; what is in the first one alone, and what is in both, make it again (P3.1, P3.3). Conditions: those of the given row (the library's table of math/bits lies as its initialiser lays it).
-/
import Derived.Test.YtooehfjappckmaaDoorRegionInv
namespace Go.Proofs.YtooehfjappckmaaDoor.bitsetParts
set_option maxRecDepth 100000
open Go.RowKit

def upd {α : Type} (f : Nat → α) (i : Nat) (v : α) : Nat → α := fun j => if j = i then v else f j
theorem upd_self {α : Type} {f : Nat → α} {i : Nat} {v : α} (h : f i = v) : upd f i v = f := by
  funext j
  unfold upd
  by_cases hj : j = i
  · rw [if_pos hj, hj, h]
  · rw [if_neg hj]

/-- What holds at every stage of 'or, and, less := a.Or(b), a.And(b), a.Less(b)': e: which operations have come up; t: the slots; g: the new variables. -/
structure Stage (w : World) (n : Nat) (p q : Nat → Bool) (ba bb : Nat) (xa : Option Addr) (ca : Nat) (xb : Option Addr) (cb : Nat) (ya : Option Addr) (da : Nat) (yb : Option Addr) (db : Nat) (e : Nat → Bool) (t : Nat → Value) (g : Nat → Nat) (wr : World) : Prop where
  mk ::
  P : Two w n n p q ba bb xa ca xb cb ya da yb db wr
  l0 : e 0 = true → t 26 = .agg #[.int .i64 n, .slice xa (nw n) ca]
  l1 : e 1 = true → t 27 = .agg #[.int .i64 n, .slice xb (nw n) cb]
  l3 : e 3 = true → t 29 = .agg #[.int .i64 n, .slice xa (nw n) ca]
  l4 : e 4 = true → t 30 = .agg #[.int .i64 n, .slice xb (nw n) cb]
  l6 : e 6 = true → t 32 = .agg #[.int .i64 n, .slice xa (nw n) ca]
  l7 : e 7 = true → t 33 = .agg #[.int .i64 n, .slice xb (nw n) cb]
  c2 : e 2 = true → ∃ x k, t 28 = .agg #[.int .i64 n, .slice x (nw n) k] ∧ SetAt wr n (orP n p q) x k
  c5 : e 5 = true → ∃ x k, t 31 = .agg #[.int .i64 n, .slice x (nw n) k] ∧ SetAt wr n (andP n p q) x k
  c8 : e 8 = true → ∃ x k, t 34 = .agg #[.int .i64 n, .slice x (nw n) k] ∧ SetAt wr n (lessP n p q) x k
  a9 : e 9 = true → t 11 = .pointer (some ⟨g 1, 0, none⟩) ∧ BoxOf (g 1) (e 12) n (orP n p q) wr ∧ ba < g 1 ∧ bb < g 1 ∧ w.heap.size ≤ g 1
  a10 : e 10 = true → t 12 = .pointer (some ⟨g 2, 0, none⟩) ∧ BoxOf (g 2) (e 13) n (andP n p q) wr ∧ ba < g 2 ∧ bb < g 2 ∧ w.heap.size ≤ g 2
  a11 : e 11 = true → t 13 = .pointer (some ⟨g 3, 0, none⟩) ∧ BoxOf (g 3) (e 14) n (lessP n p q) wr ∧ ba < g 3 ∧ bb < g 3 ∧ w.heap.size ≤ g 3
  d12 : e 9 = true → e 10 = true → g 1 ≠ g 2
  d13 : e 9 = true → e 11 = true → g 1 ≠ g 3
  d23 : e 10 = true → e 11 = true → g 2 ≠ g 3
  z12 : e 12 = true → e 9 = true
  z13 : e 13 = true → e 10 = true
  z14 : e 14 = true → e 11 = true
theorem Stage.next {w : World} {n : Nat} {p q : Nat → Bool} {ba bb : Nat} {xa : Option Addr} {ca : Nat} {xb : Option Addr} {cb : Nat} {ya : Option Addr} {da : Nat} {yb : Option Addr} {db : Nat} {e : Nat → Bool} {t : Nat → Value} {g : Nat → Nat} {wr : World} {w' : World} (h : Stage w n p q ba bb xa ca xb cb ya da yb db e t g wr) (hb : Below wr.heap.size wr w') : Stage w n p q ba bb xa ca xb cb ya da yb db e t g w' :=
  ⟨h.P.next hb, h.l0, h.l1, h.l3, h.l4, h.l6, h.l7, fun hh => by obtain ⟨x, k, h1, h2⟩ := h.c2 hh; exact ⟨x, k, h1, h2.below hb⟩, fun hh => by obtain ⟨x, k, h1, h2⟩ := h.c5 hh; exact ⟨x, k, h1, h2.below hb⟩, fun hh => by obtain ⟨x, k, h1, h2⟩ := h.c8 hh; exact ⟨x, k, h1, h2.below hb⟩, fun hh => by obtain ⟨h1, h2, h3⟩ := h.a9 hh; exact ⟨h1, h2.next hb, h3⟩, fun hh => by obtain ⟨h1, h2, h3⟩ := h.a10 hh; exact ⟨h1, h2.next hb, h3⟩, fun hh => by obtain ⟨h1, h2, h3⟩ := h.a11 hh; exact ⟨h1, h2.next hb, h3⟩, h.d12, h.d13, h.d23, h.z12, h.z13, h.z14⟩
theorem Stage.load0 {w : World} {n : Nat} {p q : Nat → Bool} {ba bb : Nat} {xa : Option Addr} {ca : Nat} {xb : Option Addr} {cb : Nat} {ya : Option Addr} {da : Nat} {yb : Option Addr} {db : Nat} {e : Nat → Bool} {t : Nat → Value} {g : Nat → Nat} {wr : World} (h : Stage w n p q ba bb xa ca xb cb ya da yb db e t g wr) : Stage w n p q ba bb xa ca xb cb ya da yb db (upd e 0 true) (upd t 26 (.agg #[.int .i64 n, .slice xa (nw n) ca])) g wr :=
  ⟨h.P, fun _ => rfl, h.l1, h.l3, h.l4, h.l6, h.l7, h.c2, h.c5, h.c8, h.a9, h.a10, h.a11, h.d12, h.d13, h.d23, h.z12, h.z13, h.z14⟩
theorem Stage.load1 {w : World} {n : Nat} {p q : Nat → Bool} {ba bb : Nat} {xa : Option Addr} {ca : Nat} {xb : Option Addr} {cb : Nat} {ya : Option Addr} {da : Nat} {yb : Option Addr} {db : Nat} {e : Nat → Bool} {t : Nat → Value} {g : Nat → Nat} {wr : World} (h : Stage w n p q ba bb xa ca xb cb ya da yb db e t g wr) : Stage w n p q ba bb xa ca xb cb ya da yb db (upd e 1 true) (upd t 27 (.agg #[.int .i64 n, .slice xb (nw n) cb])) g wr :=
  ⟨h.P, h.l0, fun _ => rfl, h.l3, h.l4, h.l6, h.l7, h.c2, h.c5, h.c8, h.a9, h.a10, h.a11, h.d12, h.d13, h.d23, h.z12, h.z13, h.z14⟩
theorem Stage.load3 {w : World} {n : Nat} {p q : Nat → Bool} {ba bb : Nat} {xa : Option Addr} {ca : Nat} {xb : Option Addr} {cb : Nat} {ya : Option Addr} {da : Nat} {yb : Option Addr} {db : Nat} {e : Nat → Bool} {t : Nat → Value} {g : Nat → Nat} {wr : World} (h : Stage w n p q ba bb xa ca xb cb ya da yb db e t g wr) : Stage w n p q ba bb xa ca xb cb ya da yb db (upd e 3 true) (upd t 29 (.agg #[.int .i64 n, .slice xa (nw n) ca])) g wr :=
  ⟨h.P, h.l0, h.l1, fun _ => rfl, h.l4, h.l6, h.l7, h.c2, h.c5, h.c8, h.a9, h.a10, h.a11, h.d12, h.d13, h.d23, h.z12, h.z13, h.z14⟩
theorem Stage.load4 {w : World} {n : Nat} {p q : Nat → Bool} {ba bb : Nat} {xa : Option Addr} {ca : Nat} {xb : Option Addr} {cb : Nat} {ya : Option Addr} {da : Nat} {yb : Option Addr} {db : Nat} {e : Nat → Bool} {t : Nat → Value} {g : Nat → Nat} {wr : World} (h : Stage w n p q ba bb xa ca xb cb ya da yb db e t g wr) : Stage w n p q ba bb xa ca xb cb ya da yb db (upd e 4 true) (upd t 30 (.agg #[.int .i64 n, .slice xb (nw n) cb])) g wr :=
  ⟨h.P, h.l0, h.l1, h.l3, fun _ => rfl, h.l6, h.l7, h.c2, h.c5, h.c8, h.a9, h.a10, h.a11, h.d12, h.d13, h.d23, h.z12, h.z13, h.z14⟩
theorem Stage.load6 {w : World} {n : Nat} {p q : Nat → Bool} {ba bb : Nat} {xa : Option Addr} {ca : Nat} {xb : Option Addr} {cb : Nat} {ya : Option Addr} {da : Nat} {yb : Option Addr} {db : Nat} {e : Nat → Bool} {t : Nat → Value} {g : Nat → Nat} {wr : World} (h : Stage w n p q ba bb xa ca xb cb ya da yb db e t g wr) : Stage w n p q ba bb xa ca xb cb ya da yb db (upd e 6 true) (upd t 32 (.agg #[.int .i64 n, .slice xa (nw n) ca])) g wr :=
  ⟨h.P, h.l0, h.l1, h.l3, h.l4, fun _ => rfl, h.l7, h.c2, h.c5, h.c8, h.a9, h.a10, h.a11, h.d12, h.d13, h.d23, h.z12, h.z13, h.z14⟩
theorem Stage.load7 {w : World} {n : Nat} {p q : Nat → Bool} {ba bb : Nat} {xa : Option Addr} {ca : Nat} {xb : Option Addr} {cb : Nat} {ya : Option Addr} {da : Nat} {yb : Option Addr} {db : Nat} {e : Nat → Bool} {t : Nat → Value} {g : Nat → Nat} {wr : World} (h : Stage w n p q ba bb xa ca xb cb ya da yb db e t g wr) : Stage w n p q ba bb xa ca xb cb ya da yb db (upd e 7 true) (upd t 33 (.agg #[.int .i64 n, .slice xb (nw n) cb])) g wr :=
  ⟨h.P, h.l0, h.l1, h.l3, h.l4, h.l6, fun _ => rfl, h.c2, h.c5, h.c8, h.a9, h.a10, h.a11, h.d12, h.d13, h.d23, h.z12, h.z13, h.z14⟩
theorem Stage.call2 {w : World} {n : Nat} {p q : Nat → Bool} {ba bb : Nat} {xa : Option Addr} {ca : Nat} {xb : Option Addr} {cb : Nat} {ya : Option Addr} {da : Nat} {yb : Option Addr} {db : Nat} {e : Nat → Bool} {t : Nat → Value} {g : Nat → Nat} {wr : World} {x : Option Addr} {k : Nat} (h : Stage w n p q ba bb xa ca xb cb ya da yb db e t g wr) (hs : SetAt wr n (orP n p q) x k) : Stage w n p q ba bb xa ca xb cb ya da yb db (upd e 2 true) (upd t 28 (.agg #[.int .i64 n, .slice x (nw n) k])) g wr :=
  ⟨h.P, h.l0, h.l1, h.l3, h.l4, h.l6, h.l7, fun _ => ⟨x, k, rfl, hs⟩, h.c5, h.c8, h.a9, h.a10, h.a11, h.d12, h.d13, h.d23, h.z12, h.z13, h.z14⟩
theorem Stage.call5 {w : World} {n : Nat} {p q : Nat → Bool} {ba bb : Nat} {xa : Option Addr} {ca : Nat} {xb : Option Addr} {cb : Nat} {ya : Option Addr} {da : Nat} {yb : Option Addr} {db : Nat} {e : Nat → Bool} {t : Nat → Value} {g : Nat → Nat} {wr : World} {x : Option Addr} {k : Nat} (h : Stage w n p q ba bb xa ca xb cb ya da yb db e t g wr) (hs : SetAt wr n (andP n p q) x k) : Stage w n p q ba bb xa ca xb cb ya da yb db (upd e 5 true) (upd t 31 (.agg #[.int .i64 n, .slice x (nw n) k])) g wr :=
  ⟨h.P, h.l0, h.l1, h.l3, h.l4, h.l6, h.l7, h.c2, fun _ => ⟨x, k, rfl, hs⟩, h.c8, h.a9, h.a10, h.a11, h.d12, h.d13, h.d23, h.z12, h.z13, h.z14⟩
theorem Stage.call8 {w : World} {n : Nat} {p q : Nat → Bool} {ba bb : Nat} {xa : Option Addr} {ca : Nat} {xb : Option Addr} {cb : Nat} {ya : Option Addr} {da : Nat} {yb : Option Addr} {db : Nat} {e : Nat → Bool} {t : Nat → Value} {g : Nat → Nat} {wr : World} {x : Option Addr} {k : Nat} (h : Stage w n p q ba bb xa ca xb cb ya da yb db e t g wr) (hs : SetAt wr n (lessP n p q) x k) : Stage w n p q ba bb xa ca xb cb ya da yb db (upd e 8 true) (upd t 34 (.agg #[.int .i64 n, .slice x (nw n) k])) g wr :=
  ⟨h.P, h.l0, h.l1, h.l3, h.l4, h.l6, h.l7, h.c2, h.c5, fun _ => ⟨x, k, rfl, hs⟩, h.a9, h.a10, h.a11, h.d12, h.d13, h.d23, h.z12, h.z13, h.z14⟩
theorem Stage.alloc9 {w : World} {n : Nat} {p q : Nat → Bool} {ba bb : Nat} {xa : Option Addr} {ca : Nat} {xb : Option Addr} {cb : Nat} {ya : Option Addr} {da : Nat} {yb : Option Addr} {db : Nat} {e : Nat → Bool} {t : Nat → Value} {g : Nat → Nat} {wr : World} (h : Stage w n p q ba bb xa ca xb cb ya da yb db e t g wr) (he : e 9 = false) (T : Nat) : Stage w n p q ba bb xa ca xb cb ya da yb db (upd e 9 true) (upd t 11 (.pointer (some ⟨wr.heap.size, 0, none⟩))) (upd g 1 wr.heap.size) (wr.alloc (.cells #[.int .i64 0, .slice none 0 0] T)) := by
  have h2 := h.next (one_below wr (.cells #[.int .i64 0, .slice none 0 0] T))
  have hs : e 12 = false := by
    cases hh : e 12 with
    | false => rfl
    | true => rw [h.z12 hh] at he; cases he
  have hbx : BoxOf wr.heap.size (e 12) n (orP n p q) (wr.alloc (.cells #[.int .i64 0, .slice none 0 0] T)) := .inl ⟨hs, sbox_new _ _ _ _⟩
  have hA := h.P.A.size
  have hB := h.P.B.size
  have hw := h.P.be.size
  exact ⟨h2.P, h.l0, h.l1, h.l3, h.l4, h.l6, h.l7, h2.c2, h2.c5, h2.c8, fun _ => ⟨rfl, hbx, hA, hB, hw⟩, h2.a10, h2.a11, fun _ hv => by have := (h.a10 hv).2.1.size; show wr.heap.size ≠ g 2; omega, fun _ hv => by have := (h.a11 hv).2.1.size; show wr.heap.size ≠ g 3; omega, h.d23, fun _ => rfl, h.z13, h.z14⟩
theorem Stage.alloc10 {w : World} {n : Nat} {p q : Nat → Bool} {ba bb : Nat} {xa : Option Addr} {ca : Nat} {xb : Option Addr} {cb : Nat} {ya : Option Addr} {da : Nat} {yb : Option Addr} {db : Nat} {e : Nat → Bool} {t : Nat → Value} {g : Nat → Nat} {wr : World} (h : Stage w n p q ba bb xa ca xb cb ya da yb db e t g wr) (he : e 10 = false) (T : Nat) : Stage w n p q ba bb xa ca xb cb ya da yb db (upd e 10 true) (upd t 12 (.pointer (some ⟨wr.heap.size, 0, none⟩))) (upd g 2 wr.heap.size) (wr.alloc (.cells #[.int .i64 0, .slice none 0 0] T)) := by
  have h2 := h.next (one_below wr (.cells #[.int .i64 0, .slice none 0 0] T))
  have hs : e 13 = false := by
    cases hh : e 13 with
    | false => rfl
    | true => rw [h.z13 hh] at he; cases he
  have hbx : BoxOf wr.heap.size (e 13) n (andP n p q) (wr.alloc (.cells #[.int .i64 0, .slice none 0 0] T)) := .inl ⟨hs, sbox_new _ _ _ _⟩
  have hA := h.P.A.size
  have hB := h.P.B.size
  have hw := h.P.be.size
  exact ⟨h2.P, h.l0, h.l1, h.l3, h.l4, h.l6, h.l7, h2.c2, h2.c5, h2.c8, h2.a9, fun _ => ⟨rfl, hbx, hA, hB, hw⟩, h2.a11, fun hu _ => by have := (h.a9 hu).2.1.size; show g 1 ≠ wr.heap.size; omega, h.d13, fun _ hv => by have := (h.a11 hv).2.1.size; show wr.heap.size ≠ g 3; omega, h.z12, fun _ => rfl, h.z14⟩
theorem Stage.alloc11 {w : World} {n : Nat} {p q : Nat → Bool} {ba bb : Nat} {xa : Option Addr} {ca : Nat} {xb : Option Addr} {cb : Nat} {ya : Option Addr} {da : Nat} {yb : Option Addr} {db : Nat} {e : Nat → Bool} {t : Nat → Value} {g : Nat → Nat} {wr : World} (h : Stage w n p q ba bb xa ca xb cb ya da yb db e t g wr) (he : e 11 = false) (T : Nat) : Stage w n p q ba bb xa ca xb cb ya da yb db (upd e 11 true) (upd t 13 (.pointer (some ⟨wr.heap.size, 0, none⟩))) (upd g 3 wr.heap.size) (wr.alloc (.cells #[.int .i64 0, .slice none 0 0] T)) := by
  have h2 := h.next (one_below wr (.cells #[.int .i64 0, .slice none 0 0] T))
  have hs : e 14 = false := by
    cases hh : e 14 with
    | false => rfl
    | true => rw [h.z14 hh] at he; cases he
  have hbx : BoxOf wr.heap.size (e 14) n (lessP n p q) (wr.alloc (.cells #[.int .i64 0, .slice none 0 0] T)) := .inl ⟨hs, sbox_new _ _ _ _⟩
  have hA := h.P.A.size
  have hB := h.P.B.size
  have hw := h.P.be.size
  exact ⟨h2.P, h.l0, h.l1, h.l3, h.l4, h.l6, h.l7, h2.c2, h2.c5, h2.c8, h2.a9, h2.a10, fun _ => ⟨rfl, hbx, hA, hB, hw⟩, h.d12, fun hu _ => by have := (h.a9 hu).2.1.size; show g 1 ≠ wr.heap.size; omega, fun hu _ => by have := (h.a10 hu).2.1.size; show g 2 ≠ wr.heap.size; omega, h.z12, h.z13, fun _ => rfl⟩
theorem Stage.box9 {w : World} {n : Nat} {p q : Nat → Bool} {ba bb : Nat} {xa : Option Addr} {ca : Nat} {xb : Option Addr} {cb : Nat} {ya : Option Addr} {da : Nat} {yb : Option Addr} {db : Nat} {e : Nat → Bool} {t : Nat → Value} {g : Nat → Nat} {wr : World} (h : Stage w n p q ba bb xa ca xb cb ya da yb db e t g wr) (he : e 9 = true) (hs0 : e 12 = false) : t 11 = .pointer (some ⟨g 1, 0, none⟩) ∧ SBox (g 1) (.int .i64 0) (.slice none 0 0) wr := by
  obtain ⟨h1, h2, _⟩ := h.a9 he
  rcases h2 with ⟨_, h2⟩ | ⟨h2, _⟩
  · exact ⟨h1, h2⟩
  · rw [hs0] at h2; cases h2
theorem Stage.store12 {w : World} {n : Nat} {p q : Nat → Bool} {ba bb : Nat} {xa : Option Addr} {ca : Nat} {xb : Option Addr} {cb : Nat} {ya : Option Addr} {da : Nat} {yb : Option Addr} {db : Nat} {e : Nat → Bool} {t : Nat → Value} {g : Nat → Nat} {wr : World} {x : Option Addr} {k : Nat} (h : Stage w n p q ba bb xa ca xb cb ya da yb db e t g wr) (he : e 9 = true) (hs0 : e 12 = false) (hs : SetAt wr n (orP n p q) x k) :
    Stage w n p q ba bb xa ca xb cb ya da yb db (upd e 12 true) t g ((wr.setCell ⟨g 1, 0, none⟩ (.int .i64 n)).setCell ⟨g 1, 1, none⟩ (.slice x (nw n) k)) := by
  obtain ⟨ha1, hbx⟩ := h.box9 he hs0
  obtain ⟨_, _, hg1, hg2, hg3⟩ := h.a9 he
  have hc0 := hbx.c0
  exact ⟨h.P.stored hc0 (by omega) (by omega) (by omega) hg3, h.l0, h.l1, h.l3, h.l4, h.l6, h.l7, fun hh => by obtain ⟨x, k, h1, h2⟩ := h.c2 hh; exact ⟨x, k, h1, SetAt.stored h2 hc0⟩, fun hh => by obtain ⟨x, k, h1, h2⟩ := h.c5 hh; exact ⟨x, k, h1, SetAt.stored h2 hc0⟩, fun hh => by obtain ⟨x, k, h1, h2⟩ := h.c8 hh; exact ⟨x, k, h1, SetAt.stored h2 hc0⟩, fun _ => ⟨ha1, .inr ⟨rfl, x, k, hbx.store, SetAt.stored hs hc0⟩, hg1, hg2, hg3⟩, fun hh => by obtain ⟨h1, h2, h3⟩ := h.a10 hh; exact ⟨h1, h2.other (fun hq => h.d12 he hh hq.symm) hc0, h3⟩, fun hh => by obtain ⟨h1, h2, h3⟩ := h.a11 hh; exact ⟨h1, h2.other (fun hq => h.d13 he hh hq.symm) hc0, h3⟩, h.d12, h.d13, h.d23, fun _ => he, h.z13, h.z14⟩
theorem Stage.box10 {w : World} {n : Nat} {p q : Nat → Bool} {ba bb : Nat} {xa : Option Addr} {ca : Nat} {xb : Option Addr} {cb : Nat} {ya : Option Addr} {da : Nat} {yb : Option Addr} {db : Nat} {e : Nat → Bool} {t : Nat → Value} {g : Nat → Nat} {wr : World} (h : Stage w n p q ba bb xa ca xb cb ya da yb db e t g wr) (he : e 10 = true) (hs0 : e 13 = false) : t 12 = .pointer (some ⟨g 2, 0, none⟩) ∧ SBox (g 2) (.int .i64 0) (.slice none 0 0) wr := by
  obtain ⟨h1, h2, _⟩ := h.a10 he
  rcases h2 with ⟨_, h2⟩ | ⟨h2, _⟩
  · exact ⟨h1, h2⟩
  · rw [hs0] at h2; cases h2
theorem Stage.store13 {w : World} {n : Nat} {p q : Nat → Bool} {ba bb : Nat} {xa : Option Addr} {ca : Nat} {xb : Option Addr} {cb : Nat} {ya : Option Addr} {da : Nat} {yb : Option Addr} {db : Nat} {e : Nat → Bool} {t : Nat → Value} {g : Nat → Nat} {wr : World} {x : Option Addr} {k : Nat} (h : Stage w n p q ba bb xa ca xb cb ya da yb db e t g wr) (he : e 10 = true) (hs0 : e 13 = false) (hs : SetAt wr n (andP n p q) x k) :
    Stage w n p q ba bb xa ca xb cb ya da yb db (upd e 13 true) t g ((wr.setCell ⟨g 2, 0, none⟩ (.int .i64 n)).setCell ⟨g 2, 1, none⟩ (.slice x (nw n) k)) := by
  obtain ⟨ha1, hbx⟩ := h.box10 he hs0
  obtain ⟨_, _, hg1, hg2, hg3⟩ := h.a10 he
  have hc0 := hbx.c0
  exact ⟨h.P.stored hc0 (by omega) (by omega) (by omega) hg3, h.l0, h.l1, h.l3, h.l4, h.l6, h.l7, fun hh => by obtain ⟨x, k, h1, h2⟩ := h.c2 hh; exact ⟨x, k, h1, SetAt.stored h2 hc0⟩, fun hh => by obtain ⟨x, k, h1, h2⟩ := h.c5 hh; exact ⟨x, k, h1, SetAt.stored h2 hc0⟩, fun hh => by obtain ⟨x, k, h1, h2⟩ := h.c8 hh; exact ⟨x, k, h1, SetAt.stored h2 hc0⟩, fun hh => by obtain ⟨h1, h2, h3⟩ := h.a9 hh; exact ⟨h1, h2.other (fun hq => h.d12 hh he hq) hc0, h3⟩, fun _ => ⟨ha1, .inr ⟨rfl, x, k, hbx.store, SetAt.stored hs hc0⟩, hg1, hg2, hg3⟩, fun hh => by obtain ⟨h1, h2, h3⟩ := h.a11 hh; exact ⟨h1, h2.other (fun hq => h.d23 he hh hq.symm) hc0, h3⟩, h.d12, h.d13, h.d23, h.z12, fun _ => he, h.z14⟩
theorem Stage.box11 {w : World} {n : Nat} {p q : Nat → Bool} {ba bb : Nat} {xa : Option Addr} {ca : Nat} {xb : Option Addr} {cb : Nat} {ya : Option Addr} {da : Nat} {yb : Option Addr} {db : Nat} {e : Nat → Bool} {t : Nat → Value} {g : Nat → Nat} {wr : World} (h : Stage w n p q ba bb xa ca xb cb ya da yb db e t g wr) (he : e 11 = true) (hs0 : e 14 = false) : t 13 = .pointer (some ⟨g 3, 0, none⟩) ∧ SBox (g 3) (.int .i64 0) (.slice none 0 0) wr := by
  obtain ⟨h1, h2, _⟩ := h.a11 he
  rcases h2 with ⟨_, h2⟩ | ⟨h2, _⟩
  · exact ⟨h1, h2⟩
  · rw [hs0] at h2; cases h2
theorem Stage.store14 {w : World} {n : Nat} {p q : Nat → Bool} {ba bb : Nat} {xa : Option Addr} {ca : Nat} {xb : Option Addr} {cb : Nat} {ya : Option Addr} {da : Nat} {yb : Option Addr} {db : Nat} {e : Nat → Bool} {t : Nat → Value} {g : Nat → Nat} {wr : World} {x : Option Addr} {k : Nat} (h : Stage w n p q ba bb xa ca xb cb ya da yb db e t g wr) (he : e 11 = true) (hs0 : e 14 = false) (hs : SetAt wr n (lessP n p q) x k) :
    Stage w n p q ba bb xa ca xb cb ya da yb db (upd e 14 true) t g ((wr.setCell ⟨g 3, 0, none⟩ (.int .i64 n)).setCell ⟨g 3, 1, none⟩ (.slice x (nw n) k)) := by
  obtain ⟨ha1, hbx⟩ := h.box11 he hs0
  obtain ⟨_, _, hg1, hg2, hg3⟩ := h.a11 he
  have hc0 := hbx.c0
  exact ⟨h.P.stored hc0 (by omega) (by omega) (by omega) hg3, h.l0, h.l1, h.l3, h.l4, h.l6, h.l7, fun hh => by obtain ⟨x, k, h1, h2⟩ := h.c2 hh; exact ⟨x, k, h1, SetAt.stored h2 hc0⟩, fun hh => by obtain ⟨x, k, h1, h2⟩ := h.c5 hh; exact ⟨x, k, h1, SetAt.stored h2 hc0⟩, fun hh => by obtain ⟨x, k, h1, h2⟩ := h.c8 hh; exact ⟨x, k, h1, SetAt.stored h2 hc0⟩, fun hh => by obtain ⟨h1, h2, h3⟩ := h.a9 hh; exact ⟨h1, h2.other (fun hq => h.d13 hh he hq) hc0, h3⟩, fun hh => by obtain ⟨h1, h2, h3⟩ := h.a10 hh; exact ⟨h1, h2.other (fun hq => h.d23 hh he hq) hc0, h3⟩, fun _ => ⟨ha1, .inr ⟨rfl, x, k, hbx.store, SetAt.stored hs hc0⟩, hg1, hg2, hg3⟩, h.d12, h.d13, h.d23, h.z12, h.z13, fun _ => he⟩

/-- Behind it: five variables. -/
structure Five (w : World) (n : Nat) (p q : Nat → Bool) (ba bb : Nat) (xa : Option Addr) (ca : Nat) (xb : Option Addr) (cb : Nat) (ya : Option Addr) (da : Nat) (yb : Option Addr) (db : Nat) (g1 g2 g3 : Nat) (xo : Option Addr) (ko : Nat) (xn : Option Addr) (kn : Nat) (xl : Option Addr) (kl : Nat) (wr : World) : Prop where
  mk ::
  T : Two w n n p q ba bb xa ca xb cb ya da yb db wr
  O : SBox g1 (.int .i64 n) (.slice xo (nw n) ko) wr
  N : SBox g2 (.int .i64 n) (.slice xn (nw n) kn) wr
  L : SBox g3 (.int .i64 n) (.slice xl (nw n) kl) wr
  SO : SetAt wr n (orP n p q) xo ko
  SN : SetAt wr n (andP n p q) xn kn
  SL : SetAt wr n (lessP n p q) xl kl
theorem Five.next {w wr w' : World} {n : Nat} {p q : Nat → Bool} {ba bb : Nat} {xa : Option Addr} {ca : Nat} {xb : Option Addr} {cb : Nat} {ya : Option Addr} {da : Nat} {yb : Option Addr} {db : Nat} {g1 g2 g3 : Nat} {xo : Option Addr} {ko : Nat} {xn : Option Addr} {kn : Nat} {xl : Option Addr} {kl : Nat}
    (h : Five w n p q ba bb xa ca xb cb ya da yb db g1 g2 g3 xo ko xn kn xl kl wr) (hb : Below wr.heap.size wr w') : Five w n p q ba bb xa ca xb cb ya da yb db g1 g2 g3 xo ko xn kn xl kl w' :=
  ⟨h.T.next hb, h.O.next hb, h.N.next hb, h.L.next hb, h.SO.below hb, h.SN.below hb, h.SL.below hb⟩
theorem Five.cells {w wr : World} {n : Nat} {p q : Nat → Bool} {ba bb : Nat} {xa : Option Addr} {ca : Nat} {xb : Option Addr} {cb : Nat} {ya : Option Addr} {da : Nat} {yb : Option Addr} {db : Nat} {g1 g2 g3 : Nat} {xo : Option Addr} {ko : Nat} {xn : Option Addr} {kn : Nat} {xl : Option Addr} {kl : Nat}
    (h : Five w n p q ba bb xa ca xb cb ya da yb db g1 g2 g3 xo ko xn kn xl kl wr) : wr.cell? ⟨ba, 0, none⟩ = some (.int .i64 n) ∧ wr.cell? ⟨ba, 1, none⟩ = some (.slice xa (nw n) ca) ∧ wr.cell? ⟨bb, 0, none⟩ = some (.int .i64 n) ∧ wr.cell? ⟨bb, 1, none⟩ = some (.slice xb (nw n) cb) ∧
      wr.cell? ⟨g1, 0, none⟩ = some (.int .i64 n) ∧ wr.cell? ⟨g1, 1, none⟩ = some (.slice xo (nw n) ko) ∧ wr.cell? ⟨g2, 0, none⟩ = some (.int .i64 n) ∧ wr.cell? ⟨g2, 1, none⟩ = some (.slice xn (nw n) kn) ∧ wr.cell? ⟨g3, 0, none⟩ = some (.int .i64 n) ∧ wr.cell? ⟨g3, 1, none⟩ = some (.slice xl (nw n) kl) :=
  ⟨h.T.A.c0, h.T.A.c1, h.T.B.c0, h.T.B.c1, h.O.c0, h.O.c1, h.N.c0, h.N.c1, h.L.c0, h.L.c1⟩
theorem box_set {b n : Nat} {r : Nat → Bool} {s : Bool} {w : World} (h : BoxOf b s n r w) (hs : s = true) : ∃ x k, SBox b (.int .i64 n) (.slice x (nw n) k) w ∧ SetAt w n r x k := by
  rcases h with ⟨h1, _⟩ | ⟨_, h⟩
  · rw [h1] at hs; cases hs
  · exact h

/- the numbers -/
theorem cnt_parts (n m : Nat) (p q : Nat → Bool) (hm : m ≤ n) : cnt (orP n p q) m + cnt (andP n p q) m = cnt p m + cnt q m := by
  induction m with
  | zero => rfl
  | succ m ih =>
    have := ih (by omega)
    have hd : decide (m < n) = true := decide_eq_true (by omega)
    simp only [cnt]
    have h1 : orP n p q m = (p m || q m) := by unfold orP; rw [hd]; rfl
    have h2 : andP n p q m = (p m && q m) := by unfold andP; rw [hd]; rfl
    rw [h1, h2]
    cases p m <;> cases q m <;> simp <;> omega
theorem eq_of {n : Nat} {p q : Nat → Bool} (h : ∀ i, i < n → p i = q i) : eqB n n p q = true := by
  unfold eqB
  rw [wi_true fun i hi hp => by rw [← h i hi]; exact hp, wi_true fun i hi hp => by rw [h i hi]; exact hp]
  simp
theorem again (n : Nat) (p q : Nat → Bool) : eqB n n (orP n (lessP n p q) (andP n p q)) p = true := by
  refine eq_of fun i hi => ?_
  have hd : decide (i < n) = true := decide_eq_true hi
  unfold orP lessP andP
  rw [hd]
  cases p i <;> cases q i <;> rfl
theorem none_left (n : Nat) (p q : Nat → Bool) : cnt (andP n (lessP n p q) q) n = 0 := by
  refine cnt_none fun i hi => ?_
  unfold andP lessP
  cases p i <;> cases q i <;> simp
theorem and_in (n : Nat) (p q : Nat → Bool) : wi n (andP n p q) q = true := wi_true fun i hi h => by
  unfold andP at h; simp at h; exact h.2.2
theorem in_or (n : Nat) (p q : Nat → Bool) : wi n p (orP n p q) = true := wi_true fun i hi h => by
  unfold orP; rw [h, decide_eq_true hi]; rfl
theorem or_turned (n : Nat) (p q : Nat → Bool) : eqB n n (orP n p q) (orP n q p) = true := eq_of fun i _ => by
  unfold orP; rw [Bool.or_comm]

set_option maxHeartbeats 20000000 in
theorem walk (s1 : Int) (x1 : Option Addr) (l1 c1 : Nat) (z1 : List Int) (x2 : Option Addr) (l2 c2 : Nat) (z2 : List Int) (w : World) (hs1 : I64 s1) (r1 : IsRow w x1 l1 c1 z1) (r2 : IsRow w x2 l2 c2 z2) (hL : LibOk w) :
    Calls Tryd.prog 6 #[.int .i64 s1, .slice x1 l1 c1, .slice x2 l2 c2] w fun e w' => e = .returned (.bool true) ∧ Below w.heap.size w w' := by
  obtain ⟨k1, k2⟩ := row_cap r1
  obtain ⟨k3, k4⟩ := row_cap r2
  have M1 := made_any s1 x1 l1 c1 z1 _ hs1 k1 k2 (fun L hL => nums_of r1 hL)
  have M2 := fun W hb => made_any s1 x2 l2 c2 z2 W hs1 k3 k4 (fun L hL => (nums_of r2 hL).below hb)
  have hz1 := sz_lt s1
  have HL := Lib.hid hL
  have hpos : 0 < w.heap.size := Nat.lt_of_le_of_lt (Nat.zero_le _) hL.lt
  generalize sz s1 = n at *
  clear r1 r2 hs1 hL
  go_enter Tryd.func6, Tryd.ntmps6
  go_wp2_with fail
  with_reducible refine M1.mono ?_
  rintro e w1 ⟨⟨p, xa, ca, ya, da, rfl, S1, D1⟩, b1⟩
  have b1' := on b1 (one_below w1 (.cells #[.int .i64 n, .slice xa (nw n) ca] 25))
  have HB1 := Lib.hid b1'
  have M2 := M2 _ HB1.out
  have HA := Lib.hid (sbox_new w1 (.int .i64 n) (.slice xa (nw n) ca) 25)
  have HSA := Lib.hid (S1.below (one_below w1 (.cells #[.int .i64 n, .slice xa (nw n) ca] 25)))
  have HDA := Lib.hid (D1.below (one_below w1 (.cells #[.int .i64 n, .slice xa (nw n) ca] 25)))
  clear b1 b1' S1 D1 M1
  go_wp2_with fail
  with_reducible refine M2.mono ?_
  rintro e w2 ⟨⟨q, xb, cb, yb, db, rfl, S2, D2⟩, b2⟩
  have b2' := on b2 (one_below w2 (.cells #[.int .i64 n, .slice xb (nw n) cb] 25))
  have HB2 := on HB1.out b2'
  have hne : w1.heap.size < w2.heap.size := Nat.lt_of_lt_of_le HA.out.size b2.size
  have P : Hid (Two w n n p q w1.heap.size w2.heap.size xa ca xb cb ya da yb db (w2.alloc (.cells #[.int .i64 n, .slice xb (nw n) cb] 25))) :=
    ⟨HA.out.next b2', sbox_new w2 _ _ _, HSA.out.below b2', S2.below (one_below _ _), HDA.out.below b2', D2.below (one_below _ _), HL.out.below HB2, HB2⟩
  clear b2 b2' S2 D2 M2 HB1 HA HSA HDA HL HB2
  go_wp2
  refine region_inv (Inv := fun l a wr => ∃ (e : Nat → Bool) (t : Nat → Value) (g : Nat → Nat), l = #[e 0, e 1, e 2, e 3, e 4, e 5, e 6, e 7, e 8, e 9, e 10, e 11, e 12, e 13, e 14] ∧ a = ⟨#[.int .i64 s1, .slice x1 l1 c1, .slice x2 l2 c2, undef, undef, undef, .bool false, .pointer (some ⟨w1.heap.size, 0, none⟩), .slice ya n da, .pointer (some ⟨w2.heap.size, 0, none⟩), .slice yb n db, t 11, t 12, t 13, .tuple #[.agg #[.int .i64 n, .slice xa (nw n) ca], .slice ya n da], .int .i64 s1, .slice x1 l1 c1, .tuple #[.agg #[.int .i64 n, .slice xa (nw n) ca], .slice ya n da], .agg #[.int .i64 n, .slice xa (nw n) ca], .slice ya n da, .tuple #[.agg #[.int .i64 n, .slice xb (nw n) cb], .slice yb n db], .int .i64 s1, .slice x2 l2 c2, .tuple #[.agg #[.int .i64 n, .slice xb (nw n) cb], .slice yb n db], .agg #[.int .i64 n, .slice xb (nw n) cb], .slice yb n db, t 26, t 27, t 28, t 29, t 30, t 31, t 32, t 33, t 34, undef, undef, undef, undef, undef, undef, undef, undef, undef, undef, undef, undef, undef, undef, undef, undef, undef, undef, undef, undef, undef, undef, undef, undef, undef, undef, undef, undef, undef, undef, undef, undef, undef, undef, undef, undef, undef, undef, undef, undef, undef, undef, undef, undef, undef], []⟩ ∧ Stage w n p q w1.heap.size w2.heap.size xa ca xb cb ya da yb db e t g wr) (by kernel_rfl) ?step ?start ?done
  case start => exact ⟨fun _ => false, fun _ => undef, fun _ => 0, rfl, rfl, ⟨P.out.drew, (fun h => by cases h), (fun h => by cases h), (fun h => by cases h), (fun h => by cases h), (fun h => by cases h), (fun h => by cases h), (fun h => by cases h), (fun h => by cases h), (fun h => by cases h), (fun h => by cases h), (fun h => by cases h), (fun h => by cases h), (fun h => by cases h), (fun h => by cases h), (fun h => by cases h), (fun h => by cases h), (fun h => by cases h), (fun h => by cases h)⟩⟩
  case step =>
    rintro l a wr ⟨e, t, g, rfl, rfl, hs⟩ i o ho hi ha
    match i, ho, hi, ha with
    | 0, ho, hi, ha =>
      obtain rfl : _ = o := Option.some.inj ho
      have hi : e 0 = false := hi
      refine wpOp_step (i := 0) rfl (fun K hK => ?_)
      have HK : Shut (∀ a w, _ → K a w) := hK
      clear hK ho
      obtain ⟨a0, a1, a2, a3⟩ := hs.P.cells
      have HS := Lib.hid hs
      clear hs ha hi
      go_simp
      exact HK.out _ _ ⟨upd e 0 true, upd t 26 _, g, rfl, rfl, HS.out.load0⟩
    | 1, ho, hi, ha =>
      obtain rfl : _ = o := Option.some.inj ho
      have hi : e 1 = false := hi
      refine wpOp_step (i := 1) rfl (fun K hK => ?_)
      have HK : Shut (∀ a w, _ → K a w) := hK
      clear hK ho
      obtain ⟨a0, a1, a2, a3⟩ := hs.P.cells
      have HS := Lib.hid hs
      clear hs ha hi
      go_simp
      exact HK.out _ _ ⟨upd e 1 true, upd t 27 _, g, rfl, rfl, HS.out.load1⟩
    | 2, ho, hi, ha =>
      obtain rfl : _ = o := Option.some.inj ho
      have hi : e 2 = false := hi
      have ta := hs.l0 (ha { on := 0, ground := .data } (by simp) rfl)
      have tb := hs.l1 (ha { on := 1, ground := .data } (by simp) rfl)
      have Ta := Lib.hid ta
      have Tb := Lib.hid tb
      refine wpOp_step (i := 2) rfl (fun K hK => ?_)
      have HK : Shut (∀ a w, _ → K a w) := hK
      clear hK ho
      have OR := or_any n n p q xa xb ca cb wr hs.P.SA hs.P.SB
      have HS := Lib.hid hs
      clear hs ha hi
      go_simp
      (with_reducible refine OR.mono ?_)
      rintro e' w' ⟨⟨x, k, rfl, S⟩, b⟩
      go_wp2_with fail
      exact HK.out _ _ ⟨upd e 2 true, upd (upd (upd t 26 _) 27 _) 28 _, g, rfl, rfl, by rw [upd_self Ta.out, upd_self Tb.out]; exact (HS.out.next b).call2 S⟩
    | 3, ho, hi, ha =>
      obtain rfl : _ = o := Option.some.inj ho
      have hi : e 3 = false := hi
      refine wpOp_step (i := 3) rfl (fun K hK => ?_)
      have HK : Shut (∀ a w, _ → K a w) := hK
      clear hK ho
      obtain ⟨a0, a1, a2, a3⟩ := hs.P.cells
      have HS := Lib.hid hs
      clear hs ha hi
      go_simp
      exact HK.out _ _ ⟨upd e 3 true, upd t 29 _, g, rfl, rfl, HS.out.load3⟩
    | 4, ho, hi, ha =>
      obtain rfl : _ = o := Option.some.inj ho
      have hi : e 4 = false := hi
      refine wpOp_step (i := 4) rfl (fun K hK => ?_)
      have HK : Shut (∀ a w, _ → K a w) := hK
      clear hK ho
      obtain ⟨a0, a1, a2, a3⟩ := hs.P.cells
      have HS := Lib.hid hs
      clear hs ha hi
      go_simp
      exact HK.out _ _ ⟨upd e 4 true, upd t 30 _, g, rfl, rfl, HS.out.load4⟩
    | 5, ho, hi, ha =>
      obtain rfl : _ = o := Option.some.inj ho
      have hi : e 5 = false := hi
      have ta := hs.l3 (ha { on := 3, ground := .data } (by simp) rfl)
      have tb := hs.l4 (ha { on := 4, ground := .data } (by simp) rfl)
      have Ta := Lib.hid ta
      have Tb := Lib.hid tb
      refine wpOp_step (i := 5) rfl (fun K hK => ?_)
      have HK : Shut (∀ a w, _ → K a w) := hK
      clear hK ho
      have OR := and_any n n p q xa xb ca cb wr hs.P.SA hs.P.SB
      have HS := Lib.hid hs
      clear hs ha hi
      go_simp
      (with_reducible refine OR.mono ?_)
      rintro e' w' ⟨⟨x, k, rfl, S⟩, b⟩
      go_wp2_with fail
      exact HK.out _ _ ⟨upd e 5 true, upd (upd (upd t 29 _) 30 _) 31 _, g, rfl, rfl, by rw [upd_self Ta.out, upd_self Tb.out]; exact (HS.out.next b).call5 S⟩
    | 6, ho, hi, ha =>
      obtain rfl : _ = o := Option.some.inj ho
      have hi : e 6 = false := hi
      refine wpOp_step (i := 6) rfl (fun K hK => ?_)
      have HK : Shut (∀ a w, _ → K a w) := hK
      clear hK ho
      obtain ⟨a0, a1, a2, a3⟩ := hs.P.cells
      have HS := Lib.hid hs
      clear hs ha hi
      go_simp
      exact HK.out _ _ ⟨upd e 6 true, upd t 32 _, g, rfl, rfl, HS.out.load6⟩
    | 7, ho, hi, ha =>
      obtain rfl : _ = o := Option.some.inj ho
      have hi : e 7 = false := hi
      refine wpOp_step (i := 7) rfl (fun K hK => ?_)
      have HK : Shut (∀ a w, _ → K a w) := hK
      clear hK ho
      obtain ⟨a0, a1, a2, a3⟩ := hs.P.cells
      have HS := Lib.hid hs
      clear hs ha hi
      go_simp
      exact HK.out _ _ ⟨upd e 7 true, upd t 33 _, g, rfl, rfl, HS.out.load7⟩
    | 8, ho, hi, ha =>
      obtain rfl : _ = o := Option.some.inj ho
      have hi : e 8 = false := hi
      have ta := hs.l6 (ha { on := 6, ground := .data } (by simp) rfl)
      have tb := hs.l7 (ha { on := 7, ground := .data } (by simp) rfl)
      have Ta := Lib.hid ta
      have Tb := Lib.hid tb
      refine wpOp_step (i := 8) rfl (fun K hK => ?_)
      have HK : Shut (∀ a w, _ → K a w) := hK
      clear hK ho
      have OR := less_any n n p q xa xb ca cb wr hs.P.SA hs.P.SB
      have HS := Lib.hid hs
      clear hs ha hi
      go_simp
      (with_reducible refine OR.mono ?_)
      rintro e' w' ⟨⟨x, k, rfl, S⟩, b⟩
      go_wp2_with fail
      exact HK.out _ _ ⟨upd e 8 true, upd (upd (upd t 32 _) 33 _) 34 _, g, rfl, rfl, by rw [upd_self Ta.out, upd_self Tb.out]; exact (HS.out.next b).call8 S⟩
    | 9, ho, hi, ha =>
      obtain rfl : _ = o := Option.some.inj ho
      have hi : e 9 = false := hi
      refine wpOp_step (i := 9) rfl (fun K hK => ?_)
      have HK : Shut (∀ a w, _ → K a w) := hK
      clear hK ho
      have HS := Lib.hid hs
      have HI := Lib.hid hi
      clear hs ha hi
      go_simp
      exact HK.out _ _ ⟨upd e 9 true, upd t 11 _, upd g 1 _, rfl, rfl, HS.out.alloc9 HI.out _⟩
    | 10, ho, hi, ha =>
      obtain rfl : _ = o := Option.some.inj ho
      have hi : e 10 = false := hi
      refine wpOp_step (i := 10) rfl (fun K hK => ?_)
      have HK : Shut (∀ a w, _ → K a w) := hK
      clear hK ho
      have HS := Lib.hid hs
      have HI := Lib.hid hi
      clear hs ha hi
      go_simp
      exact HK.out _ _ ⟨upd e 10 true, upd t 12 _, upd g 2 _, rfl, rfl, HS.out.alloc10 HI.out _⟩
    | 11, ho, hi, ha =>
      obtain rfl : _ = o := Option.some.inj ho
      have hi : e 11 = false := hi
      refine wpOp_step (i := 11) rfl (fun K hK => ?_)
      have HK : Shut (∀ a w, _ → K a w) := hK
      clear hK ho
      have HS := Lib.hid hs
      have HI := Lib.hid hi
      clear hs ha hi
      go_simp
      exact HK.out _ _ ⟨upd e 11 true, upd t 13 _, upd g 3 _, rfl, rfl, HS.out.alloc11 HI.out _⟩
    | 12, ho, hi, ha =>
      obtain rfl : _ = o := Option.some.inj ho
      have hi : e 12 = false := hi
      have hea := ha { on := 9, ground := .data } (by simp) rfl
      have hec := ha { on := 2, ground := .data } (by simp) rfl
      obtain ⟨t1, B1⟩ := hs.box9 hea hi
      obtain ⟨x, k, t2, S⟩ := hs.c2 hec
      have T1 := Lib.hid t1
      have T2 := Lib.hid t2
      refine wpOp_step (i := 12) rfl (fun K hK => ?_)
      have HK : Shut (∀ a w, _ → K a w) := hK
      clear hK ho
      have HS := Lib.hid (hs.store12 hea hi S)
      obtain ⟨q0, q1, q2, q3, q4⟩ := B1
      clear hs ha hi S hea hec
      go_simp
      exact HK.out _ _ ⟨upd e 12 true, upd (upd t 11 _) 28 _, g, rfl, rfl, by rw [upd_self T1.out, upd_self T2.out]; exact HS.out⟩
    | 13, ho, hi, ha =>
      obtain rfl : _ = o := Option.some.inj ho
      have hi : e 13 = false := hi
      have hea := ha { on := 10, ground := .data } (by simp) rfl
      have hec := ha { on := 5, ground := .data } (by simp) rfl
      obtain ⟨t1, B1⟩ := hs.box10 hea hi
      obtain ⟨x, k, t2, S⟩ := hs.c5 hec
      have T1 := Lib.hid t1
      have T2 := Lib.hid t2
      refine wpOp_step (i := 13) rfl (fun K hK => ?_)
      have HK : Shut (∀ a w, _ → K a w) := hK
      clear hK ho
      have HS := Lib.hid (hs.store13 hea hi S)
      obtain ⟨q0, q1, q2, q3, q4⟩ := B1
      clear hs ha hi S hea hec
      go_simp
      exact HK.out _ _ ⟨upd e 13 true, upd (upd t 12 _) 31 _, g, rfl, rfl, by rw [upd_self T1.out, upd_self T2.out]; exact HS.out⟩
    | 14, ho, hi, ha =>
      obtain rfl : _ = o := Option.some.inj ho
      have hi : e 14 = false := hi
      have hea := ha { on := 11, ground := .data } (by simp) rfl
      have hec := ha { on := 8, ground := .data } (by simp) rfl
      obtain ⟨t1, B1⟩ := hs.box11 hea hi
      obtain ⟨x, k, t2, S⟩ := hs.c8 hec
      have T1 := Lib.hid t1
      have T2 := Lib.hid t2
      refine wpOp_step (i := 14) rfl (fun K hK => ?_)
      have HK : Shut (∀ a w, _ → K a w) := hK
      clear hK ho
      have HS := Lib.hid (hs.store14 hea hi S)
      obtain ⟨q0, q1, q2, q3, q4⟩ := B1
      clear hs ha hi S hea hec
      go_simp
      exact HK.out _ _ ⟨upd e 14 true, upd (upd t 13 _) 34 _, g, rfl, rfl, by rw [upd_self T1.out, upd_self T2.out]; exact HS.out⟩
    | k + 15, ho, hi, ha => simp at ho
  case done =>
    rintro l a wr ⟨e, t, g, rfl, rfl, hs⟩ hr
    have e0 : e 0 = true := ready_all hr (i := 0) rfl (by intro d hd; simp at hd)
    have e1 : e 1 = true := ready_all hr (i := 1) rfl (by intro d hd; simp at hd)
    have e3 : e 3 = true := ready_all hr (i := 3) rfl (by intro d hd; simp at hd)
    have e4 : e 4 = true := ready_all hr (i := 4) rfl (by intro d hd; simp at hd)
    have e6 : e 6 = true := ready_all hr (i := 6) rfl (by intro d hd; simp at hd)
    have e7 : e 7 = true := ready_all hr (i := 7) rfl (by intro d hd; simp at hd)
    have e9 : e 9 = true := ready_all hr (i := 9) rfl (by intro d hd; simp at hd)
    have e10 : e 10 = true := ready_all hr (i := 10) rfl (by intro d hd; simp at hd)
    have e11 : e 11 = true := ready_all hr (i := 11) rfl (by intro d hd; simp at hd)
    have e2 : e 2 = true := ready_all hr (i := 2) rfl (by intro d hd _; simp at hd; rcases hd with rfl | rfl <;> first | exact e0 | exact e1 | exact e3 | exact e4 | exact e6 | exact e7 | exact e9 | exact e10 | exact e11)
    have e5 : e 5 = true := ready_all hr (i := 5) rfl (by intro d hd _; simp at hd; rcases hd with rfl | rfl | rfl <;> first | exact e0 | exact e1 | exact e3 | exact e4 | exact e6 | exact e7 | exact e9 | exact e10 | exact e11 | exact e2)
    have e8 : e 8 = true := ready_all hr (i := 8) rfl (by intro d hd _; simp at hd; rcases hd with rfl | rfl | rfl <;> first | exact e0 | exact e1 | exact e3 | exact e4 | exact e6 | exact e7 | exact e9 | exact e10 | exact e11 | exact e2 | exact e5)
    have e12 : e 12 = true := ready_all hr (i := 12) rfl (by intro d hd _; simp at hd; rcases hd with rfl | rfl | rfl | rfl | rfl | rfl | rfl | rfl | rfl | rfl | rfl | rfl | rfl | rfl | rfl <;> first | exact e0 | exact e1 | exact e3 | exact e4 | exact e6 | exact e7 | exact e9 | exact e10 | exact e11 | exact e2 | exact e5 | exact e8)
    have e13 : e 13 = true := ready_all hr (i := 13) rfl (by intro d hd _; simp at hd; rcases hd with rfl | rfl | rfl | rfl | rfl | rfl | rfl | rfl | rfl | rfl | rfl | rfl | rfl | rfl | rfl | rfl <;> first | exact e0 | exact e1 | exact e3 | exact e4 | exact e6 | exact e7 | exact e9 | exact e10 | exact e11 | exact e2 | exact e5 | exact e8 | exact e12)
    have e14 : e 14 = true := ready_all hr (i := 14) rfl (by intro d hd _; simp at hd; rcases hd with rfl | rfl | rfl | rfl | rfl | rfl | rfl | rfl | rfl | rfl | rfl | rfl | rfl | rfl | rfl | rfl | rfl <;> first | exact e0 | exact e1 | exact e3 | exact e4 | exact e6 | exact e7 | exact e9 | exact e10 | exact e11 | exact e2 | exact e5 | exact e8 | exact e12 | exact e13)
    obtain ⟨h11, B1, _⟩ := hs.a9 e9
    obtain ⟨h12, B2, _⟩ := hs.a10 e10
    obtain ⟨h13, B3, _⟩ := hs.a11 e11
    obtain ⟨xo, ko, O, SO⟩ := box_set B1 e12
    obtain ⟨xn, kn, N, SN⟩ := box_set B2 e13
    obtain ⟨xl, kl, L, SL⟩ := box_set B3 e14
    have F : Hid (Five w n p q w1.heap.size w2.heap.size xa ca xb cb ya da yb db (g 1) (g 2) (g 3) xo ko xn kn xl kl wr.drew) :=
      Five.next ⟨hs.P, O, N, L, SO, SN, SL⟩ (Below.refl _ _).drew
    generalize g 1 = g1 at *
    generalize g 2 = g2 at *
    generalize g 3 = g3 at *
    generalize t 26 = t26
    generalize t 27 = t27
    generalize t 28 = t28
    generalize t 29 = t29
    generalize t 30 = t30
    generalize t 31 = t31
    generalize t 32 = t32
    generalize t 33 = t33
    generalize t 34 = t34
    rw [h11, h12, h13]
    clear P B1 B2 B3 O N L SO SN SL hs e0 e1 e2 e3 e4 e5 e6 e7 e8 e9 e10 e11 e12 e13 e14 hr h11 h12 h13 hne
    have CP := cnt_parts n n p q (Nat.le_refl _)
    have b1 := cnt_le (orP n p q) n
    have b2 := cnt_le (andP n p q) n
    have b3 := cnt_le p n
    have b4 := cnt_le q n
    have C1 := fun W h => count_any (.int .i64 n) n xo ko (orP n p q) W h
    have C2 := fun W h => count_any (.int .i64 n) n xn kn (andP n p q) W h
    have C3 := fun W h => count_any (.int .i64 n) n xa ca p W h
    have C4 := fun W h => count_any (.int .i64 n) n xb cb q W h
    have C5 := fun x k W h => count_any (.int .i64 n) n x k (andP n (lessP n p q) q) W h
    rw [none_left] at C5
    have E1 := fun x k W h1 h2 => equal_any n n (orP n (lessP n p q) (andP n p q)) p x xa k ca W h1 h2
    rw [again] at E1
    have E2 := fun x k W h1 h2 => equal_any n n (orP n p q) (orP n q p) xo x ko k W h1 h2
    rw [or_turned] at E2
    have I1 := fun W h1 h2 => within_any n n (andP n p q) q xn xb kn cb W h1 h2
    rw [and_in] at I1
    have I2 := fun W h1 h2 => within_any n n p (orP n p q) xa xo ca ko W h1 h2
    rw [in_or] at I2
    have U1 := fun W h1 h2 => or_any n n (lessP n p q) (andP n p q) xl xn kl kn W h1 h2
    have U2 := fun W h1 h2 => and_any n n (lessP n p q) q xl xb kl cb W h1 h2
    have U3 := fun W h1 h2 => or_any n n q p xb xa cb ca W h1 h2
    generalize cnt (orP n p q) n = d1 at *
    generalize cnt (andP n p q) n = d2 at *
    generalize cnt p n = d3 at *
    generalize cnt q n = d4 at *
    have kw1 : IntKind.i64.wrap ((d1 : Int) + (d2 : Int)) = ((d3 + d4 : Nat) : Int) := by rw [IntKind.wrap_i64]; omega
    have kw2 : IntKind.i64.wrap ((d3 : Int) + (d4 : Int)) = ((d3 + d4 : Nat) : Int) := by rw [IntKind.wrap_i64]; omega
    generalize d3 + d4 = d5 at *
    clear CP b1 b2 b3 b4
    go_wp2
    go_region_held3 (fun w' => w'.cell? ⟨w1.heap.size, 0, none⟩ = some (.int .i64 n) ∧ w'.cell? ⟨w1.heap.size, 1, none⟩ = some (.slice xa (nw n) ca) ∧ w'.cell? ⟨w2.heap.size, 0, none⟩ = some (.int .i64 n) ∧ w'.cell? ⟨w2.heap.size, 1, none⟩ = some (.slice xb (nw n) cb) ∧ w'.cell? ⟨g1, 0, none⟩ = some (.int .i64 n) ∧ w'.cell? ⟨g1, 1, none⟩ = some (.slice xo (nw n) ko) ∧ w'.cell? ⟨g2, 0, none⟩ = some (.int .i64 n) ∧ w'.cell? ⟨g2, 1, none⟩ = some (.slice xn (nw n) kn) ∧ w'.cell? ⟨g3, 0, none⟩ = some (.int .i64 n) ∧ w'.cell? ⟨g3, 1, none⟩ = some (.slice xl (nw n) kl)) (exact F.out.cells)
      (first
        | (go_at_call 14; (with_reducible refine (wakes_any _ F.out.T.ok).mono ?_); rintro e wn ⟨rfl, b⟩; have F := Lib.hid (F.out.next b); clear b)
        | (go_at_call 11; (with_reducible refine (C1 _ F.out.SO).mono ?_); rintro e wn ⟨rfl, b⟩; have F := Lib.hid (F.out.next b); clear b)
        | (go_at_call 11; (with_reducible refine (C2 _ F.out.SN).mono ?_); rintro e wn ⟨rfl, b⟩; have F := Lib.hid (F.out.next b); clear b)
        | (go_at_call 11; (with_reducible refine (C3 _ F.out.T.SA).mono ?_); rintro e wn ⟨rfl, b⟩; have F := Lib.hid (F.out.next b); clear b)
        | (go_at_call 11; (with_reducible refine (C4 _ F.out.T.SB).mono ?_); rintro e wn ⟨rfl, b⟩; have F := Lib.hid (F.out.next b); clear b)
        | (go_at_call 23; (with_reducible refine (U1 _ F.out.SL F.out.SN).mono ?_); rintro e wn ⟨⟨x6, k6, rfl, S6⟩, b⟩; have F := Lib.hid (F.out.next b); have G6 := Lib.hid S6; clear S6; clear b)
        | (go_at_call 29; (with_reducible refine (E1 _ _ _ G6.out F.out.T.SA).mono ?_); rintro e wn ⟨rfl, b⟩; have F := Lib.hid (F.out.next b); clear b)
        | (go_at_call 25; (with_reducible refine (U2 _ F.out.SL F.out.T.SB).mono ?_); rintro e wn ⟨⟨x8, k8, rfl, S8⟩, b⟩; have F := Lib.hid (F.out.next b); have G8 := Lib.hid S8; clear S8; clear b)
        | (go_at_call 11; (with_reducible refine (C5 _ _ _ G8.out).mono ?_); rintro e wn ⟨rfl, b⟩; have F := Lib.hid (F.out.next b); clear b)
        | (go_at_call 28; (with_reducible refine (I1 _ F.out.SN F.out.T.SB).mono ?_); rintro e wn ⟨rfl, b⟩; have F := Lib.hid (F.out.next b); clear b)
        | (go_at_call 28; (with_reducible refine (I2 _ F.out.T.SA F.out.SO).mono ?_); rintro e wn ⟨rfl, b⟩; have F := Lib.hid (F.out.next b); clear b)
        | (go_at_call 23; (with_reducible refine (U3 _ F.out.T.SB F.out.T.SA).mono ?_); rintro e wn ⟨⟨x12, k12, rfl, S12⟩, b⟩; have F := Lib.hid (F.out.next b); have G12 := Lib.hid S12; clear S12; clear b)
        | (go_at_call 29; (with_reducible refine (E2 _ _ _ F.out.SO G12.out).mono ?_); rintro e wn ⟨rfl, b⟩; have F := Lib.hid (F.out.next b); clear b))
    all_goals
      have B := F.out.T.be
      clear F
      go_wp2
      go_ret
      exact ⟨rfl, B⟩

/-! ### the row -/
open Go.ChangeShapes Go.WideShapes Go.ChangeAt
theorem lifted (os : Os) (started : os.Started) (H : Type) (enc : TypeId × Value → H) :
    ReturnsInHanded {} Tryd.checked os 6 .any (fun w args => (Rows.bitsetPartsSpec.pre enc Tryd.prog Tryd.f6 [] false w args ∧ laidMetH Tryd.prog laidL w) ∧ sizedMet enc Tryd.prog Tryd.f6 (OpenSpec.ofChange Rows.bitsetPartsSpec) false w args)
      (Rows.bitsetPartsSpec.post enc Tryd.prog Tryd.f6 false true false false) := by
  refine returnsInHanded_of_change_and (C := Tryd.checked) (X := fun w _ => laidMetH Tryd.prog laidL w) (fun _ _ _ hh h => h.of_heap hh) own started (by kernel_rfl) Tryd.func6
    (ChangeSpec.witness_shaped (enc := enc) (C := Tryd.checked) (os := os) (X := fun w _ => laidMetH Tryd.prog laidL w) false (World.doorLaid Tryd.prog 400 os) #[.int .i64 0, .slice none 0 0, .slice none 0 0] 8 rfl (World.shaped_of_RefB (by kernel_rfl) (by kernel_rfl)) (by kernel_rfl) (by kernel_rfl) (by kernel_rfl) (door_met os _)) ?_
  intro W base args ds gs before hval0 hW _ hsz0 hL _
  have hval : ∀ (j : Nat) t v, Tryd.f6.params[j]? = some t → args[j]? = some v → Value.okWide Tryd.prog W .any base t v := hval0
  have hW' := hW
  obtain ⟨p, q, hA0, hV, rfl, hfz, hnd⟩ := hW
  have hA : DataW.TrodAll enc Tryd.prog W 0 (fun _ => true) true Tryd.f6.params.toList args.toList ds p := hA0
  rw [Tryd.params6] at hA hval
  obtain ⟨v0, vs0, d0, ds0, p0, q0, hargs, rfl, rfl, h0, r0⟩ := trodAll_cons hA
  obtain ⟨v1, vs1, d1, ds1, p1, q1, rfl, rfl, rfl, h1, r1⟩ := trodAll_cons r0
  obtain ⟨v2, vs2, d2, ds2, p2, q2, rfl, rfl, rfl, h2, r2⟩ := trodAll_cons r1
  obtain ⟨rfl, rfl, rfl⟩ := trodAll_nil r2
  obtain rfl : args = #[v0, v1, v2] := by cases args; simp_all
  obtain ⟨rfl, rfl⟩ := trodVars_none hV
  have k0 := h0
  have lt0 : ∀ x ∈ p0, x.block < W.heap.size := by obtain ⟨m, hm⟩ := k0; exact DataW.trod_lt m _ _ _ hm
  obtain ⟨a0, w0, rfl⟩ := open_num (hval 0 3 v0 rfl rfl) h0
  have k1 := h1
  have lt1 : ∀ x ∈ p1, x.block < W.heap.size := by obtain ⟨m, hm⟩ := k1; exact DataW.trod_lt m _ _ _ hm
  obtain ⟨x1, l1, c1, zs1, w1, rfl⟩ := open_row (hval 1 22 v1 rfl rfl) h1
  have k2 := h2
  have lt2 : ∀ x ∈ p2, x.block < W.heap.size := by obtain ⟨m, hm⟩ := k2; exact DataW.trod_lt m _ _ _ hm
  obtain ⟨x2, l2, c2, zs2, w2, rfl⟩ := open_row (hval 2 22 v2 rfl rfl) h2
  clear hA0 hval0
  refine (walk a0 x1 l1 c1 zs1 x2 l2 c2 zs2 W w0 w1 w2 (libOk_of_laid hL)).mono fun e W' ⟨he, bel⟩ => ?_
  subst he
  exact ⟨_, rfl, _, _, _, [], _, [], hW', trodAll_mk1 (shut_bool Tryd.underlying4 _), (trodAll_cons_mk (Below.trod laidOut (by kernel_rfl) (of_decide_eq_true (by kernel_rfl)) k0 bel lt0) (trodAll_cons_mk (Below.trod laidOut (by kernel_rfl) (of_decide_eq_true (by kernel_rfl)) k1 bel lt1) (trodAll_cons_mk (Below.trod laidOut (by kernel_rfl) (of_decide_eq_true (by kernel_rfl)) k2 bel lt2) trodAll_mk0))), rfl, bel.frame _, fun h => by cases h⟩

theorem over : Rows.bitsetPartsRow.holds Tryd.pinned (OpenSpec.ofChange Rows.bitsetPartsSpec) :=
  OpenClaim.holds_of_wide 6 Tryd.f6 rfl rfl rfl rfl rfl rfl rfl ⟨rfl, rfl, rfl, rfl, rfl⟩ rfl rfl rfl rfl rfl (by kernel_rfl) Tryd.func6 (by kernel_rfl)
    (of_decide_eq_true (by kernel_rfl)) (by unfold Func.isWrapper; first | (rw [if_pos (by decide +kernel)]; kernel_rfl) | (rw [if_neg (by decide +kernel)]; exact ⟨rfl, rfl⟩))
    (fun os started H enc _ => lifted os started H enc)

theorem card : Rows.BitsetPartsCardSaid :=
  Claim7.holds_tied_plain_at .later [] [.data] true _ false
    over (fun _ h => by cases h) (by kernel_rfl) (fun _ h => by cases h) bitsetParts_row_tie rfl ⟨rfl, rfl⟩ (by kernel_rfl) rfl
    (fun f fn hf hfn => by
      obtain rfl : f = 6 := Option.some.inj ((show Tryd.prog.funcNamed Rows.bitsetPartsRow.func = some 6 by kernel_rfl).symm.trans hf) |>.symm
      obtain rfl : fn = Tryd.f6 := (Option.some.inj (Tryd.func6.symm.trans hfn)).symm
      exact ⟨by kernel_rfl, fun j t ht => by
        rw [Tryd.params6] at ht
        have hm : t ∈ [3, 22, 22] := by simpa using Array.mem_of_getElem? ht
        have hall : ([3, 22, 22].all fun u => !Tryd.prog.wantsStandIn u) = true := by kernel_rfl
        exact (show Tryd.prog.wantsStandIn t = false by simpa using List.all_eq_true.1 hall t hm)⟩)
    (by kernel_rfl)

end Go.Proofs.YtooehfjappckmaaDoor.bitsetParts
namespace Go.Proofs.YtooehfjappckmaaDoor
theorem bitsetParts_holds : Rows.BitsetPartsCardSaid := bitsetParts.card
#print axioms bitsetParts_holds
end Go.Proofs.YtooehfjappckmaaDoor
