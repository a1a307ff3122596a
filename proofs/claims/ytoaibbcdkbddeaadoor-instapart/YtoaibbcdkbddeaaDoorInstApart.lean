/-
  InstApart (layer 9, P9.2): a copy has lists of its own: what is done to one is not done to the other: for every instance the law returns true, and it reads as it did. Condition: the listed table of the kinds' words reads as the row says (tied to the program's text).
-/
import Derived.Test.YtoaibbcdkbddeaaDoorInstMake
import Derived.Test.YtoaibbcdkbddeaaDoorInstWake
import Derived.Test.YtoaibbcdkbddeaaDoorInstRefCheck
import Derived.Test.YtoaibbcdkbddeaaDoorInstFrame
import Derived.SevenTiedAt
namespace Go.Proofs.YtoaibbcdkbddeaaDoor.instApart
open Go.Proofs.YtoaibbcdkbddeaaDoor
set_option maxRecDepth 100000
open Go.RowKit

theorem shape {F G : Nat → Prop} {w : World} {I J : In} {a b c : Value} (h : Ins F G w (inV I a b c) J) : (∃ A n C, a = .slice A n C) ∧ (∃ A n C, b = .slice A n C) ∧ (∃ A n C, c = .slice A n C) := by
  obtain ⟨vi, vc, vs, uc, us, e, hi, hc, hs⟩ := h.form
  unfold inV at e
  simp only [Value.agg.injEq, Array.mk.injEq, List.cons.injEq, and_true] at e
  obtain ⟨_, _, rfl, rfl, _, rfl⟩ := e
  obtain ⟨A0, C0, rfl, _, _⟩ := hi.form
  obtain ⟨A, C, rfl, _, _⟩ := hc.form
  obtain ⟨A2, C2, rfl, _, _⟩ := hs.form
  exact ⟨⟨_, _, _, rfl⟩, ⟨_, _, _, rfl⟩, ⟨_, _, _, rfl⟩⟩
/-- Numbers alone. -/
def AllInt (cs : List Value) : Prop := ∀ v ∈ cs, ∃ z, v = .int .i64 z
theorem AllInt.set {cs : List Value} (h : AllInt cs) (j : Nat) (z : Int) : AllInt (cs.set j (.int .i64 z)) := by
  intro v hv
  rcases List.mem_or_eq_of_mem_set hv with h1 | h1
  · exact h v h1
  · exact ⟨z, h1⟩
theorem nl_all (l : List Int) : AllInt (nl l) := by
  intro v hv
  simp only [nl, List.mem_map] at hv
  obtain ⟨x, _, rfl⟩ := hv
  exact ⟨x, rfl⟩
theorem fl2_all (l : List (Int × Int)) : AllInt (fl2 l) := by
  intro v hv
  unfold fl2 at hv
  obtain ⟨x, _, hx⟩ := List.mem_flatMap.1 hv
  simp at hx
  rcases hx with rfl | rfl <;> exact ⟨_, rfl⟩
/-- A list of numbers is one still behind a store of a number, wherever. -/
theorem row_set {B sz n g j : Nat} {w : World} {T : TypeId} {v : Value} {cs : List Value} (h : w.ownsRow B T sz v n cs) (hc : AllInt cs) (z : Int) : ∃ cs', (w.setCell ⟨g, j, none⟩ (.int .i64 z)).ownsRow B T sz v n cs' ∧ AllInt cs' := by
  by_cases hv : v.ownBlock = some g
  · rcases h.2 with ⟨e, _⟩ | ⟨g', cap, cur, e, _⟩
    · rw [e] at hv; cases hv
    · rw [e] at hv
      obtain rfl : g' = g := by cases hv; rfl
      subst e
      exact ⟨_, (h.stored j (.int .i64 z)).1, hc.set j z⟩
  · exact ⟨cs, ownsRow_setCell_other h hv _, hc⟩
/-- A cover's sets: numbers, and the lists us. -/
def SetCells (us cs : List Value) (n : Nat) : Prop := ∀ i, i < n → (∃ z, cs[i * 2]? = some (.int .i64 z)) ∧ cs[i * 2 + 1]? = us[i]?
theorem SetCells.set {us cs : List Value} {n k : Nat} (h : SetCells us cs n) (hk : k < n) (z : Int) : SetCells us (cs.set (k * 2) (.int .i64 z)) n := by
  intro i hi
  refine ⟨?_, by rw [List.getElem?_set_ne (by omega)]; exact (h i hi).2⟩
  by_cases hik : i = k
  · subst hik
    obtain ⟨z', hz⟩ := (h i hi).1
    have hl := (List.getElem?_eq_some_iff.1 hz).1
    exact ⟨z, by rw [List.getElem?_set_self hl]⟩
  · rw [List.getElem?_set_ne (by omega)]
    exact (h i hi).1
/-- The copy's variable and its lists, while numbers of theirs are written. -/
structure CSt (B0 m1 m2 m3 m4 cb : Nat) (I : In) (vi vc vs : Value) (uc us : List Value) (W2 wr : World) : Prop where
  mk ::
  box : IBlk cb 33 (.int .i64 I.kind) (.int .i64 I.cap) vi vc (.int .i64 I.size) vs wr
  items : ∃ cs, wr.ownsRow B0 52 2 vi I.items.length cs ∧ AllInt cs
  itemsLt : ∀ q, vi.ownBlock = some q → q < m1 ∧ q < cb
  clen : uc.length = I.cost.length
  cost : wr.ownsRow m1 53 1 vc I.cost.length uc
  costLt : ∀ q, vc.ownBlock = some q → q < m2
  rows : ∀ (i : Nat) (r : List Int) (u : Value), I.cost[i]? = some r → uc[i]? = some u → (∃ cs, wr.ownsRow m2 2 1 u r.length cs ∧ AllInt cs) ∧ ∀ q, u.ownBlock = some q → q < m3 ∧ q < cb
  slen : us.length = I.sets.length
  sets : ∃ cs, wr.ownsRow m3 56 2 vs I.sets.length cs ∧ SetCells us cs I.sets.length
  setsLt : ∀ q, vs.ownBlock = some q → q < m4 ∧ q < cb
  elems : ∀ (i : Nat) (s : Int × List Int) (u : Value), I.sets[i]? = some s → us[i]? = some u → (∃ cs, wr.ownsRow m4 3 1 u s.2.length cs ∧ AllInt cs) ∧ ∀ q, u.ownBlock = some q → q < cb
  le : B0 ≤ m1 ∧ m1 ≤ m2 ∧ m2 ≤ m3 ∧ m3 ≤ m4
  be : Below B0 W2 wr
theorem CSt.store {B0 m1 m2 m3 m4 cb g j : Nat} {I : In} {vi vc vs : Value} {uc us : List Value} {W2 wr : World} (h : CSt B0 m1 m2 m3 m4 cb I vi vc vs uc us W2 wr) (h1 : B0 ≤ g) (h2 : g < cb) (h3 : vc.ownBlock ≠ some g) (h4 : vs.ownBlock = some g → ∃ k, j = k * 2 ∧ k < I.sets.length) (z : Int) :
    CSt B0 m1 m2 m3 m4 cb I vi vc vs uc us W2 (wr.setCell ⟨g, j, none⟩ (.int .i64 z)) := by
  obtain ⟨ci, hi, hia⟩ := h.items
  obtain ⟨cS, hS, hSa⟩ := h.sets
  refine ⟨h.box.other (a := ⟨g, j, none⟩) (by show cb ≠ g; omega) _, row_set hi hia z, h.itemsLt, h.clen, ownsRow_setCell_other h.cost h3 _, h.costLt, fun i r u hr hu => ?_, h.slen, ?_, h.setsLt, fun i s u hs hu => ?_, h.le, h.be.setCell (p := ⟨g, j, none⟩) h1 _⟩
  · obtain ⟨⟨cs, ho, ha⟩, hl⟩ := h.rows i r u hr hu
    exact ⟨row_set ho ha z, hl⟩
  · by_cases hv : vs.ownBlock = some g
    · obtain ⟨k, rfl, hk⟩ := h4 hv
      rcases hS.2 with ⟨e, _⟩ | ⟨g', cap, cur, e, _⟩
      · rw [e] at hv; cases hv
      · rw [e] at hv
        obtain rfl : g' = g := by cases hv; rfl
        subst e
        exact ⟨_, (hS.stored (k * 2) (.int .i64 z)).1, hSa.set hk z⟩
    · exact ⟨cS, ownsRow_setCell_other hS hv _, hSa⟩
  · obtain ⟨⟨cs, ho, ha⟩, hl⟩ := h.elems i s u hs hu
    exact ⟨row_set ho ha z, hl⟩
theorem cst_of {lo m1 m2 m3 m4 : Nat} {I : In} {vi vc vs : Value} {uc us : List Value} {W2 w3 : World} (h : OwnC lo m1 m2 m3 m4 w3 vi vc vs I uc us) (hb : Below lo W2 w3) (hl : lo ≤ w3.heap.size) :
    CSt lo m1 m2 m3 m4 w3.heap.size I vi vc vs uc us W2 (w3.alloc (.cells #[.int .i64 I.kind, .int .i64 I.cap, vi, vc, .int .i64 I.size, vs] 33)) := by
  have nb := new_below w3 (.cells #[.int .i64 I.kind, .int .i64 I.cap, vi, vc, .int .i64 I.size, vs] 33)
  have hc := h.cost.next nb
  have hs := h.sets.next nb
  refine ⟨iblk_new _ _ _ _ _ _ _ _, ⟨_, own_next h.items nb, fl2_all _⟩, fun q hq => ⟨h.itemsLt q hq, (h.items.lt q hq).2⟩, h.cost.len, hc.outer, hc.lt, fun i r u hr hu => ⟨⟨_, hc.new i r u (List.getElem?_eq_some_iff.1 hr).1 hr hu, nl_all _⟩, fun q hq => ⟨h.rowsLt i u hu q hq, ((h.cost.new i r u (List.getElem?_eq_some_iff.1 hr).1 hr hu).lt q hq).2⟩⟩, h.sets.len, ⟨_, hs.outer, fun i hi => ?_⟩, fun q hq => ⟨hs.lt q hq, (h.sets.outer.lt q hq).2⟩, fun i s u hs' hu => ⟨⟨_, hs.new i s u (List.getElem?_eq_some_iff.1 hs').1 hs' hu, nl_all _⟩, fun q hq => ((h.sets.new i s u (List.getElem?_eq_some_iff.1 hs').1 hs' hu).lt q hq).2⟩, ⟨h.le1, h.le2, h.le3, h.le4⟩, hb.alloc hl _⟩
  have hu : us[i]? = some (us[i]'(by rw [h.sets.len]; exact hi)) := List.getElem?_eq_getElem _
  have := flS_get (List.getElem?_eq_getElem hi) hu
  exact ⟨⟨_, this.1⟩, this.2.trans hu.symm⟩

theorem own_n {M size n : Nat} {w : World} {t : TypeId} {v : Value} {cs : List Value} (h : w.ownsRow M t size v n cs) : ∃ A C, v = .slice A n C := by
  rcases h.2 with ⟨e, e2⟩ | ⟨g, cap, cur, e, _⟩
  · exact ⟨none, 0, by rw [e, e2]⟩
  · exact ⟨_, _, e⟩
theorem own_len {M size n m : Nat} {w : World} {t : TypeId} {A : Option Addr} {C : Nat} {cs : List Value} (h : w.ownsRow M t size (.slice A m C) n cs) : m = n := by
  obtain ⟨A', C', e⟩ := own_n h
  simp only [Value.slice.injEq] at e
  exact e.2.1

set_option maxHeartbeats 4000000 in
theorem walk (I : In) (x : Value) (w : World) (h1 : Ins (fun _ => True) (fun _ => True) w x I) (_b1 : I64 I.kind ∧ I64 I.cap ∧ I64 I.size) (hW : WordsOk w) :
    Calls Tryd.prog 5 #[x] w fun e w' => e = .returned (.bool true) ∧ Below w.heap.size w w' := by
  have IN1 := fun W a => insts_any (fun _ => True) (fun _ => True) I x W a
  have sm1 := In.cut_small I
  unfold IsInsts at IN1
  obtain ⟨I1, hI1⟩ : ∃ q, I.cut = q := ⟨_, rfl⟩
  rw [hI1] at IN1 sm1
  clear hI1 _b1
  obtain ⟨vi, vc, vs, uc, us, rfl, hi, hc, hs⟩ := h1.form
  obtain ⟨A0, C0, rfl, _, _⟩ := hi.form
  obtain ⟨A, C, rfl, _, _⟩ := hc.form
  obtain ⟨A2, C2, rfl, _, _⟩ := hs.form
  have nb := new_below w (.cells #[.int .i64 I.kind, .int .i64 I.cap, .slice A0 I.items.length C0, .slice A I.cost.length C, .int .i64 I.size, .slice A2 I.sets.length C2] 26)
  have HX := Lib.hid (iblk_new w (.int .i64 I.kind) (.int .i64 I.cap) (.slice A0 I.items.length C0) (.slice A I.cost.length C) (.int .i64 I.size) (.slice A2 I.sets.length C2) 26)
  have H1 := Lib.hid (h1.next nb)
  have HB := Lib.hid nb
  have HW := Lib.hid (hW.next nb)
  have SM1 := Lib.hid sm1
  have hcl := sm1.cost
  have hil := sm1.items
  have hsl := sm1.sets
  have HSR := Lib.hid sm1.rows
  have HSE := Lib.hid sm1.elems
  clear h1 hi hc hs nb hW sm1
  go_enter Tryd.func5, Tryd.ntmps5
  go_wp2_with fail
  with_reducible refine (IN1 _ H1.out).mono ?_
  rintro e w1 ⟨ai, ac, az, auc, aus, ci, cc, cz, rfl, mA, mC, b1⟩
  obtain ⟨⟨P1, n1, K1, rfl⟩, ⟨P2, n2, K2, rfl⟩, ⟨P3, n3, K3, rfl⟩⟩ := shape mA.ins
  obtain ⟨⟨P4, n4, K4, rfl⟩, ⟨P5, n5, K5, rfl⟩, ⟨P6, n6, K6, rfl⟩⟩ := shape mC
  have nb1 := (new_below w1 (.cells #[.int .i64 I1.kind, .int .i64 I1.cap, .slice P1 n1 K1, .slice P2 n2 K2, .int .i64 I1.size, .slice P3 n3 K3] 33)).alloc (by simp) (.cells #[.int .i64 I1.kind, .int .i64 I1.cap, .slice P4 n4 K4, .slice P5 n5 K5, .int .i64 I1.size, .slice P6 n6 K6] 36)
  have hA := mA.ins.next nb1
  have hC := mC.next nb1
  have bb := on b1 nb1
  have HB1 := Lib.hid (on HB.out bb)
  have h11 := H1.out.next bb
  have hW1 := HW.out.next bb
  have xX := HX.out.next bb
  have xA := (iblk_new w1 (.int .i64 I1.kind) (.int .i64 I1.cap) (.slice P1 n1 K1) (.slice P2 n2 K2) (.int .i64 I1.size) (.slice P3 n3 K3) 33).next (new_below _ (.cells #[.int .i64 I1.kind, .int .i64 I1.cap, .slice P4 n4 K4, .slice P5 n5 K5, .int .i64 I1.size, .slice P6 n6 K6] 36))
  have xC := iblk_new (w1.alloc (.cells #[.int .i64 I1.kind, .int .i64 I1.cap, .slice P1 n1 K1, .slice P2 n2 K2, .int .i64 I1.size, .slice P3 n3 K3] 33)) (.int .i64 I1.kind) (.int .i64 I1.cap) (.slice P4 n4 K4) (.slice P5 n5 K5) (.int .i64 I1.size) (.slice P6 n6 K6) 36
  rw [World.size_alloc] at xC
  obtain ⟨W2, hW2⟩ : ∃ q, q = (w1.alloc (.cells #[.int .i64 I1.kind, .int .i64 I1.cap, .slice P1 n1 K1, .slice P2 n2 K2, .int .i64 I1.size, .slice P3 n3 K3] 33)).alloc (.cells #[.int .i64 I1.kind, .int .i64 I1.cap, .slice P4 n4 K4, .slice P5 n5 K5, .int .i64 I1.size, .slice P6 n6 K6] 36) := ⟨_, rfl⟩
  rw [← hW2] at hA hC HB1 h11 hW1 xX xA xC
  have CC := copy_any _ _ I1 _ W2 hA SM1.out
  have HCC := Lib.hid CC
  have HA := Lib.hid hA
  have HC := Lib.hid hC
  have H11 := Lib.hid h11
  have HW1 := Lib.hid hW1
  have XX := Lib.hid xX
  have XA := Lib.hid xA
  have XC := Lib.hid xC
  clear hA hC h11 hW1 xX xA xC CC nb1 mA mC b1 bb HB H1 HX HW
  unfold inV
  have C2' := HCC.out
  unfold inV at C2'
  rw [hW2] at C2'
  go_wp2_with fail
  with_reducible refine C2'.mono ?_
  clear C2'
  rw [← hW2]
  rintro e w3 ⟨di, dc, dz, duc, dus, m1, m2, m3, m4, rfl, mD, b3⟩
  obtain ⟨⟨Q1, l1, R1, rfl⟩, ⟨Q2, l2, R2, rfl⟩, ⟨Q3, l3, R3, rfl⟩⟩ := shape mD.ins
  have HS0 := Lib.hid (cst_of mD b3 b3.size)
  obtain ⟨W4, hW4⟩ : ∃ q, q = w3.alloc (.cells #[.int .i64 I1.kind, .int .i64 I1.cap, .slice Q1 l1 R1, .slice Q2 l2 R2, .int .i64 I1.size, .slice Q3 l3 R3] 33) := ⟨_, rfl⟩
  rw [← hW4] at HS0
  clear mD b3 HCC SM1
  unfold inV
  obtain ⟨x0, x1, x2, x3, x4, x5⟩ := HS0.out.box.box
  go_wp2
  rw [← hW4]
  clear hW4 x0 x1 x2 x3 x4 x5
  go_loopw [23, 6] (fun i _ wr => ∃ (k : Nat), k ≤ l1 ∧ i = .int .i64 (k : Nat) ∧ Hid (CSt W2.heap.size m1 m2 m3 m4 w3.heap.size I1 (.slice Q1 l1 R1) (.slice Q2 l2 R2) (.slice Q3 l3 R3) duc dus W2 wr)) (fun i _ _ => l1 - (intOf i).toNat)
  case atStart => exact ⟨0, by omega, rfl, HS0⟩
  case round =>
    obtain ⟨k, hk, rfl, hS⟩ := hrel
    obtain ⟨x0, x1, x2, x3, x4, x5⟩ := hS.out.box.box
    obtain ⟨o1, o2, o3, o4⟩ := hS.out.le
    obtain ⟨ci, hi, hia⟩ := hS.out.items
    have hl1 : l1 = I1.items.length := by
      rcases hi.2 with ⟨e, e2⟩ | ⟨_, _, _, e, _⟩
      · simp only [Value.slice.injEq] at e; omega
      · simp only [Value.slice.injEq] at e; exact e.2.1
    by_cases hlt : k < l1
    · obtain ⟨g, cap, eA, hgm, hgl⟩ := hi.form (by omega)
      obtain ⟨rfl, _, rfl⟩ : Q1 = some ⟨g, 0, none⟩ ∧ l1 = I1.items.length ∧ R1 = cap := by simpa using eA
      subst hl1
      have hcl2 := hi.1
      have hck : ci[k * 2]? = some (ci[k * 2]'(by omega)) := List.getElem?_eq_getElem _
      obtain ⟨z, hz⟩ := hia _ (List.getElem_mem (by omega : k * 2 < ci.length))
      rw [hz] at hck
      have c0 : wr.cell? ⟨g, k * 2, none⟩ = some (.int .i64 z) := by rw [hi.cellAt (k * 2) (by omega)]; exact hck
      have f0 := hi.frozenAt (k * 2)
      have hg1 := hS.out.itemsLt g rfl
      have HST := Lib.hid (fun z' => hS.out.store (g := g) (j := k * 2) hgm hg1.2 (fun e => by have := (hS.out.cost.lt g e).1; omega) (fun e => by obtain ⟨cS, hSS, _⟩ := hS.out.sets; have := (hSS.lt g e).1; omega) z')
      have c01 : (0 : Int) ≤ (k : Int) := by omega
      have c02 : (k : Int) < (I1.items.length : Int) := by omega
      clear hS hck hz hi hia
      go_wp2
      go_roundw
      case rel => exact ⟨k + 1, by omega, by go_num, HST.out _⟩
      case measure => simp [intOf]; omega
    · obtain ⟨kk, hkk⟩ : ∃ q, q = k := ⟨_, rfl⟩
      obtain rfl : k = l1 := by omega
      subst hkk
      have HS1 := hS
      clear hS hi hia hl1
      go_wp2
      clear x0 x1 x2 x3 x4 x5
      go_loopw [39, 7] (fun i _ wr => ∃ (k : Nat), k ≤ l2 ∧ i = .int .i64 (k : Nat) ∧ Hid (CSt W2.heap.size m1 m2 m3 m4 w3.heap.size I1 (.slice Q1 kk R1) (.slice Q2 l2 R2) (.slice Q3 l3 R3) duc dus W2 wr)) (fun i _ _ => l2 - (intOf i).toNat)
      case atStart => exact ⟨0, by omega, rfl, HS1⟩
      case round =>
        obtain ⟨k, hk, rfl, hS⟩ := hrel
        obtain ⟨x0, x1, x2, x3, x4, x5⟩ := hS.out.box.box
        obtain ⟨o1, o2, o3, o4⟩ := hS.out.le
        have hl2 := own_len hS.out.cost
        by_cases hlt : k < l2
        · obtain ⟨g, cap, eA, hgm, hgl⟩ := hS.out.cost.form (by omega)
          obtain ⟨rfl, _, rfl⟩ : Q2 = some ⟨g, 0, none⟩ ∧ l2 = I1.cost.length ∧ R2 = cap := by simpa using eA
          subst hl2
          have hr : I1.cost[k]? = some (I1.cost[k]'hlt) := List.getElem?_eq_getElem hlt
          generalize hrr : I1.cost[k]'hlt = r at hr
          clear hrr
          have hu : duc[k]? = some (duc[k]'(by rw [hS.out.clen]; exact hlt)) := List.getElem?_eq_getElem _
          generalize huu : duc[k]'(by rw [hS.out.clen]; exact hlt) = u at hu
          clear huu
          obtain ⟨⟨cr, ho, _⟩, _⟩ := hS.out.rows k r u hr hu
          obtain ⟨Ak, Ck, rfl⟩ := own_n ho
          have c0 : wr.cell? ⟨g, k, none⟩ = some (.slice Ak r.length Ck) := by rw [hS.out.cost.cellAt k (by omega)]; exact hu
          have HR := Lib.hid hr
          have HU := Lib.hid hu
          have c01 : (0 : Int) ≤ (k : Int) := by omega
          have c02 : (k : Int) < (I1.cost.length : Int) := by omega
          have HSS := hS
          have hrl : r.length ≤ 70 := HSR.out r (List.mem_of_getElem? hr)
          clear hS hr hu ho
          go_wp2
          clear x0 x1 x2 x3 x4 x5 c0
          go_loopw [48, 8] (fun j _ wr => ∃ (q : Nat), q ≤ r.length ∧ j = .int .i64 (q : Nat) ∧ Hid (CSt W2.heap.size m1 m2 m3 m4 w3.heap.size I1 (.slice Q1 kk R1) (.slice (some ⟨g, 0, none⟩) I1.cost.length R2) (.slice Q3 l3 R3) duc dus W2 wr)) (fun j _ _ => r.length - (intOf j).toNat)
          case atStart => exact ⟨0, by omega, rfl, HSS⟩
          case round =>
            obtain ⟨q, hq, rfl, hS⟩ := hrel
            obtain ⟨x0, x1, x2, x3, x4, x5⟩ := hS.out.box.box
            have c0 : wr.cell? ⟨g, k, none⟩ = some (.slice Ak r.length Ck) := by rw [hS.out.cost.cellAt k (by omega)]; exact HU.out
            by_cases hlq : q < r.length
            · obtain ⟨⟨cr, ho, hra⟩, hrt⟩ := hS.out.rows k r _ HR.out HU.out
              obtain ⟨gk, capk, eK, hgkm, hgkl⟩ := ho.form (by omega)
              obtain ⟨rfl, rfl⟩ : Ak = some ⟨gk, 0, none⟩ ∧ Ck = capk := by simpa using eK
              have hcl3 := ho.1
              have hck : cr[q]? = some (cr[q]'(by omega)) := List.getElem?_eq_getElem _
              obtain ⟨z, hz⟩ := hra _ (List.getElem_mem (by omega : q < cr.length))
              rw [hz] at hck
              have e0 : wr.cell? ⟨gk, q, none⟩ = some (.int .i64 z) := by rw [ho.cellAt q (by omega)]; exact hck
              have f0 := ho.frozenAt q
              have hg1 := hrt gk rfl
              have HST := Lib.hid (fun z' => hS.out.store (g := gk) (j := q) (by omega) hg1.2 (fun e => by have := hS.out.costLt gk e; omega) (fun e => by obtain ⟨cS, hSS, _⟩ := hS.out.sets; have := (hSS.lt gk e).1; omega) z')
              have d01 : (0 : Int) ≤ (q : Int) := by omega
              have d02 : (q : Int) < (r.length : Int) := by omega
              clear hS hck hz ho hra hrt
              go_wp2
              go_roundw
              case rel => exact ⟨q + 1, by omega, by go_num, HST.out _⟩
              case measure => simp [intOf]; omega
            · obtain rfl : q = r.length := by omega
              have HS1 := hS
              clear hS
              go_wp2
              go_roundw
              case rel => exact ⟨k + 1, by omega, by go_num, HS1⟩
              case measure => simp [intOf]; omega
        · obtain ⟨k2, hkk2⟩ : ∃ q, q = k := ⟨_, rfl⟩
          obtain rfl : k = l2 := by omega
          subst hkk2
          have HS1 := hS
          clear hS hl2
          go_wp2
          clear x0 x1 x2 x3 x4 x5
          go_loopw [66, 9] (fun i _ wr => ∃ (k : Nat), k ≤ l3 ∧ i = .int .i64 (k : Nat) ∧ Hid (CSt W2.heap.size m1 m2 m3 m4 w3.heap.size I1 (.slice Q1 kk R1) (.slice Q2 k2 R2) (.slice Q3 l3 R3) duc dus W2 wr)) (fun i _ _ => l3 - (intOf i).toNat)
          case atStart => exact ⟨0, by omega, rfl, HS1⟩
          case round =>
            obtain ⟨k, hk, rfl, hS⟩ := hrel
            obtain ⟨x0, x1, x2, x3, x4, x5⟩ := hS.out.box.box
            obtain ⟨cS, hSo, hSc⟩ := hS.out.sets
            have hl3 := own_len hSo
            by_cases hlt : k < l3
            · obtain ⟨g, cap, eA, hgm, hgl⟩ := hSo.form (by omega)
              obtain ⟨rfl, _, rfl⟩ : Q3 = some ⟨g, 0, none⟩ ∧ l3 = I1.sets.length ∧ R3 = cap := by simpa using eA
              subst hl3
              have hr : I1.sets[k]? = some (I1.sets[k]'hlt) := List.getElem?_eq_getElem hlt
              generalize hrr : I1.sets[k]'hlt = r at hr
              clear hrr
              have hu : dus[k]? = some (dus[k]'(by rw [hS.out.slen]; exact hlt)) := List.getElem?_eq_getElem _
              generalize huu : dus[k]'(by rw [hS.out.slen]; exact hlt) = u at hu
              clear huu
              obtain ⟨⟨cr, ho, _⟩, _⟩ := hS.out.elems k r u hr hu
              obtain ⟨Ak, Ck, rfl⟩ := own_n ho
              obtain ⟨⟨z, hz⟩, hh⟩ := hSc k hlt
              have c0 : wr.cell? ⟨g, k * 2, none⟩ = some (.int .i64 z) := by rw [hSo.cellAt (k * 2) (by omega)]; exact hz
              have c1 : wr.cell? ⟨g, k * 2 + 1, none⟩ = some (.slice Ak r.2.length Ck) := by rw [hSo.cellAt (k * 2 + 1) (by omega), hh]; exact hu
              have f0 := hSo.frozenAt (k * 2)
              have hg1 := hS.out.setsLt g rfl
              have hne : w3.heap.size ≠ g := by omega
              have HST := Lib.hid (fun z' => hS.out.store (g := g) (j := k * 2) (by omega) hg1.2 (fun e => by have := hS.out.costLt g e; omega) (fun _ => ⟨k, rfl, hlt⟩) z')
              have HR := Lib.hid hr
              have HU := Lib.hid hu
              have c01 : (0 : Int) ≤ (k : Int) := by omega
              have c02 : (k : Int) < (I1.sets.length : Int) := by omega
              have hrl : r.2.length ≤ 40 := HSE.out r (List.mem_of_getElem? hr)
              clear hS hr hu ho hSo hSc hz hh
              go_wp2
              clear x0 x1 x2 x3 x4 x5 c0 c1 f0
              go_loopw [85, 10] (fun j _ wr => ∃ (q : Nat), q ≤ r.2.length ∧ j = .int .i64 (q : Nat) ∧ Hid (CSt W2.heap.size m1 m2 m3 m4 w3.heap.size I1 (.slice Q1 kk R1) (.slice Q2 k2 R2) (.slice (some ⟨g, 0, none⟩) I1.sets.length R3) duc dus W2 wr)) (fun j _ _ => r.2.length - (intOf j).toNat)
              case atStart => exact ⟨0, by omega, rfl, HST.out _⟩
              case round =>
                obtain ⟨q, hq, rfl, hS⟩ := hrel
                obtain ⟨x0, x1, x2, x3, x4, x5⟩ := hS.out.box.box
                obtain ⟨cS, hSo, hSc⟩ := hS.out.sets
                have c1 : wr.cell? ⟨g, k * 2 + 1, none⟩ = some (.slice Ak r.2.length Ck) := by rw [hSo.cellAt (k * 2 + 1) (by omega), (hSc k hlt).2]; exact HU.out
                by_cases hlq : q < r.2.length
                · obtain ⟨⟨cr, ho, hra⟩, hrt⟩ := hS.out.elems k r _ HR.out HU.out
                  obtain ⟨gk, capk, eK, hgkm, hgkl⟩ := ho.form (by omega)
                  obtain ⟨rfl, rfl⟩ : Ak = some ⟨gk, 0, none⟩ ∧ Ck = capk := by simpa using eK
                  have hcl3 := ho.1
                  have hck : cr[q]? = some (cr[q]'(by omega)) := List.getElem?_eq_getElem _
                  obtain ⟨z, hz⟩ := hra _ (List.getElem_mem (by omega : q < cr.length))
                  rw [hz] at hck
                  have e0 : wr.cell? ⟨gk, q, none⟩ = some (.int .i64 z) := by rw [ho.cellAt q (by omega)]; exact hck
                  have f0 := ho.frozenAt q
                  have hg1 := hrt gk rfl
                  have HST := Lib.hid (fun z' => hS.out.store (g := gk) (j := q) (by omega) hg1 (fun e => by have := hS.out.costLt gk e; omega) (fun e => by have := hS.out.setsLt gk e; omega) z')
                  have d01 : (0 : Int) ≤ (q : Int) := by omega
                  have d02 : (q : Int) < (r.2.length : Int) := by omega
                  clear hS hck hz ho hra hrt hSo hSc
                  go_wp2
                  go_roundw
                  case rel => exact ⟨q + 1, by omega, by go_num, HST.out _⟩
                  case measure => simp [intOf]; omega
                · obtain rfl : q = r.2.length := by omega
                  have HS1 := hS
                  clear hS hSo hSc
                  go_wp2
                  go_roundw
                  case rel => exact ⟨k + 1, by omega, by go_num, HS1⟩
                  case measure => simp [intOf]; omega
            · obtain ⟨k3, hkk3⟩ : ∃ q, q = k := ⟨_, rfl⟩
              obtain rfl : k = l3 := by omega
              subst hkk3
              have hbe := hS.out.be
              have hX6 := XX.out.next hbe
              have hA6 := Lib.hid (HA.out.next hbe)
              have hC6 := Lib.hid (HC.out.next hbe)
              have hI6 := Lib.hid (H11.out.next hbe)
              have hW6 := Lib.hid (HW1.out.next hbe)
              have xA6 := Lib.hid (XA.out.next hbe)
              have xC6 := Lib.hid (XC.out.next hbe)
              have HB6 := Lib.hid (on HB1.out hbe)
              clear hS hSo hSc hl3 hbe HA HC H11 HW1 XX XA XC HB1 x0 x1 x2 x3 x4 x5
              obtain ⟨x0, x1, x2, x3, x4, x5⟩ := hX6.box
              go_wp2_with fail
              with_reducible refine (IN1 _ hI6.out).mono ?_
              rintro e w7 ⟨ei, ec, ez, euc, eus, fi, fc, fz, rfl, mE, mF, b7⟩
              obtain ⟨⟨T1, t1, V1, rfl⟩, ⟨T2, t2, V2, rfl⟩, ⟨T3, t3, V3, rfl⟩⟩ := shape mE.ins
              obtain ⟨⟨T4, t4, V4, rfl⟩, ⟨T5, t5, V5, rfl⟩, ⟨T6, t6, V6, rfl⟩⟩ := shape mF
              have nb7 := (new_below w7 (.cells #[.int .i64 I1.kind, .int .i64 I1.cap, .slice T1 t1 V1, .slice T2 t2 V2, .int .i64 I1.size, .slice T3 t3 V3] 33)).alloc (by simp) (.cells #[.int .i64 I1.kind, .int .i64 I1.cap, .slice T4 t4 V4, .slice T5 t5 V5, .int .i64 I1.size, .slice T6 t6 V6] 36)
              have bb := on b7 nb7
              have hD := mE.ins.next nb7
              have hA := hA6.out.next bb
              have hC := hC6.out.next bb
              have HB7 := Lib.hid (on HB6.out bb)
              have hW7 := hW6.out.next bb
              have xA := xA6.out.next bb
              have xC := xC6.out.next bb
              have xD := (iblk_new w7 (.int .i64 I1.kind) (.int .i64 I1.cap) (.slice T1 t1 V1) (.slice T2 t2 V2) (.int .i64 I1.size) (.slice T3 t3 V3) 33).next (new_below _ (.cells #[.int .i64 I1.kind, .int .i64 I1.cap, .slice T4 t4 V4, .slice T5 t5 V5, .int .i64 I1.size, .slice T6 t6 V6] 36))
              obtain ⟨w8, hw8⟩ : ∃ q, q = (w7.alloc (.cells #[.int .i64 I1.kind, .int .i64 I1.cap, .slice T1 t1 V1, .slice T2 t2 V2, .int .i64 I1.size, .slice T3 t3 V3] 33)).alloc (.cells #[.int .i64 I1.kind, .int .i64 I1.cap, .slice T4 t4 V4, .slice T5 t5 V5, .int .i64 I1.size, .slice T6 t6 V6] 36) := ⟨_, rfl⟩
              rw [← hw8] at hD hA hC HB7 hW7 xA xC xD
              have WK := fun W (a : Below w8.heap.size w8 W) => wakes_any W (hW7.next a)
              have EQ := fun W (a : Below w8.heap.size w8 W) => equal_any _ _ _ _ I1 I1 _ _ W (hA.next a) (hD.next a)
              have RC := fun W (a : Below w8.heap.size w8 W) => rcheck_any _ _ I1 _ W (hC.next a)
              have CH := fun W (a : Below w8.heap.size w8 W) => check_any _ _ I1 _ W (hA.next a) (hW7.next a)
              rw [In.eqI_self] at EQ
              obtain ⟨E, hE⟩ : ∃ E, I1.chk = E := ⟨_, rfl⟩
              rw [hE] at RC CH
              clear hE
              unfold inV at EQ RC CH
              have XS : ∀ W, Below w8.heap.size w8 W → W.cell? ⟨w1.heap.size, 0, none⟩ = some (.int .i64 I1.kind) ∧ W.cell? ⟨w1.heap.size, 1, none⟩ = some (.int .i64 I1.cap) ∧ W.cell? ⟨w1.heap.size, 2, none⟩ = some (.slice P1 n1 K1) ∧ W.cell? ⟨w1.heap.size, 3, none⟩ = some (.slice P2 n2 K2) ∧ W.cell? ⟨w1.heap.size, 4, none⟩ = some (.int .i64 I1.size) ∧ W.cell? ⟨w1.heap.size, 5, none⟩ = some (.slice P3 n3 K3) ∧ W.cell? ⟨w1.heap.size + 1, 0, none⟩ = some (.int .i64 I1.kind) ∧ W.cell? ⟨w1.heap.size + 1, 1, none⟩ = some (.int .i64 I1.cap) ∧ W.cell? ⟨w1.heap.size + 1, 2, none⟩ = some (.slice P4 n4 K4) ∧ W.cell? ⟨w1.heap.size + 1, 3, none⟩ = some (.slice P5 n5 K5) ∧ W.cell? ⟨w1.heap.size + 1, 4, none⟩ = some (.int .i64 I1.size) ∧ W.cell? ⟨w1.heap.size + 1, 5, none⟩ = some (.slice P6 n6 K6) ∧ W.cell? ⟨w7.heap.size, 0, none⟩ = some (.int .i64 I1.kind) ∧ W.cell? ⟨w7.heap.size, 1, none⟩ = some (.int .i64 I1.cap) ∧ W.cell? ⟨w7.heap.size, 2, none⟩ = some (.slice T1 t1 V1) ∧ W.cell? ⟨w7.heap.size, 3, none⟩ = some (.slice T2 t2 V2) ∧ W.cell? ⟨w7.heap.size, 4, none⟩ = some (.int .i64 I1.size) ∧ W.cell? ⟨w7.heap.size, 5, none⟩ = some (.slice T3 t3 V3) := by
                intro W hW
                obtain ⟨a0, a1, a2, a3, a4, a5⟩ := (xA.next hW).box
                obtain ⟨c0, c1, c2, c3, c4, c5⟩ := (xC.next hW).box
                obtain ⟨d0, d1, d2, d3, d4, d5⟩ := (xD.next hW).box
                exact ⟨a0, a1, a2, a3, a4, a5, c0, c1, c2, c3, c4, c5, d0, d1, d2, d3, d4, d5⟩
              have HXS := Lib.hid XS
              have FB : Hid (Below w8.heap.size w8 w8.drew) := (Below.refl _ _).drew
              clear XS xA xC xD hA hC hD hW7 mE mF nb7 b7 bb hA6 hC6 hI6 hW6 xA6 xC6 HB6 IN1 x0 x1 x2 x3 x4 x5 hX6
              unfold inV
              go_wp2
              rw [← hw8]
              clear hw8
              go_region_held3 (fun W => W.cell? ⟨w1.heap.size, 0, none⟩ = some (.int .i64 I1.kind) ∧ W.cell? ⟨w1.heap.size, 1, none⟩ = some (.int .i64 I1.cap) ∧ W.cell? ⟨w1.heap.size, 2, none⟩ = some (.slice P1 n1 K1) ∧ W.cell? ⟨w1.heap.size, 3, none⟩ = some (.slice P2 n2 K2) ∧ W.cell? ⟨w1.heap.size, 4, none⟩ = some (.int .i64 I1.size) ∧ W.cell? ⟨w1.heap.size, 5, none⟩ = some (.slice P3 n3 K3) ∧ W.cell? ⟨w1.heap.size + 1, 0, none⟩ = some (.int .i64 I1.kind) ∧ W.cell? ⟨w1.heap.size + 1, 1, none⟩ = some (.int .i64 I1.cap) ∧ W.cell? ⟨w1.heap.size + 1, 2, none⟩ = some (.slice P4 n4 K4) ∧ W.cell? ⟨w1.heap.size + 1, 3, none⟩ = some (.slice P5 n5 K5) ∧ W.cell? ⟨w1.heap.size + 1, 4, none⟩ = some (.int .i64 I1.size) ∧ W.cell? ⟨w1.heap.size + 1, 5, none⟩ = some (.slice P6 n6 K6) ∧ W.cell? ⟨w7.heap.size, 0, none⟩ = some (.int .i64 I1.kind) ∧ W.cell? ⟨w7.heap.size, 1, none⟩ = some (.int .i64 I1.cap) ∧ W.cell? ⟨w7.heap.size, 2, none⟩ = some (.slice T1 t1 V1) ∧ W.cell? ⟨w7.heap.size, 3, none⟩ = some (.slice T2 t2 V2) ∧ W.cell? ⟨w7.heap.size, 4, none⟩ = some (.int .i64 I1.size) ∧ W.cell? ⟨w7.heap.size, 5, none⟩ = some (.slice T3 t3 V3)) (exact HXS.out _ FB.out)
                (first
                  | (go_at_call 13; (with_reducible refine (WK _ FB.out).mono ?_); rintro e wn ⟨rfl, b⟩
                     have FB := Lib.hid (on FB.out b)
                     clear b)
                  | (go_at_call 15; (with_reducible refine (EQ _ FB.out).mono ?_); rintro e wn ⟨rfl, b⟩
                     have FB := Lib.hid (on FB.out b)
                     clear b)
                  | (go_at_call 10; (with_reducible refine (RC _ FB.out).mono ?_); rintro e wn ⟨rfl, b⟩
                     have FB := Lib.hid (on FB.out b)
                     clear b)
                  | (go_at_call 9; (with_reducible refine (CH _ FB.out).mono ?_); rintro e wn ⟨rfl, b⟩
                     have FB := Lib.hid (on FB.out b)
                     clear b))
              all_goals
                go_wp2
                go_ret
                exact ⟨rfl, on HB7.out FB.out⟩

/-! ### the row -/
open Go.ChangeShapes Go.WideShapes Go.ChangeAt
theorem lifted (os : Os) (started : os.Started) (H : Type) (enc : TypeId × Value → H) :
    ReturnsInHanded {} Tryd.checked os 5 .any (fun w args => (Rows.instApartSpec.pre enc Tryd.prog Tryd.f5 [] false w args ∧ laidMetH Tryd.prog laidL w) ∧ sizedMet enc Tryd.prog Tryd.f5 (OpenSpec.ofChange Rows.instApartSpec) false w args)
      (Rows.instApartSpec.post enc Tryd.prog Tryd.f5 false true false false) := by
  refine returnsInHanded_of_change_and (C := Tryd.checked) (X := fun w _ => laidMetH Tryd.prog laidL w) (fun _ _ _ hh h => h.of_heap hh) own started (by kernel_rfl) Tryd.func5
    (ChangeSpec.witness_shaped (enc := enc) (C := Tryd.checked) (os := os) (X := fun w _ => laidMetH Tryd.prog laidL w) false (World.laidAll Tryd.prog os laidL) #[.agg #[.int .i64 0, .int .i64 0, .slice none 0 0, .slice none 0 0, .int .i64 0, .slice none 0 0]] 8 (World.laidAll_os _ _ _) (start_shaped os) (by kernel_rfl) (by kernel_rfl) (by kernel_rfl) (start_met os _)) ?_
  intro W base args ds gs before hval0 hW _ _ hL _
  have hval : ∀ (j : Nat) t v, Tryd.f5.params[j]? = some t → args[j]? = some v → Value.okWide Tryd.prog W .any base t v := hval0
  have hW' := hW
  obtain ⟨p, q, hA0, hV, rfl, hfz, hnd⟩ := hW
  have hA : DataW.TrodAll enc Tryd.prog W 0 (fun _ => true) true Tryd.f5.params.toList args.toList ds p := hA0
  rw [Tryd.params5] at hA hval
  obtain ⟨v0, vs0, d0, ds0, p0, q0, hargs, rfl, rfl, h0, r0⟩ := trodAll_cons hA
  obtain ⟨rfl, rfl, rfl⟩ := trodAll_nil r0
  obtain rfl : args = #[v0] := by cases args; simp_all
  obtain ⟨rfl, rfl⟩ := trodVars_none hV
  have k0 := h0
  have lt0 : ∀ x ∈ p0, x.block < W.heap.size := by obtain ⟨m, hm⟩ := k0; exact DataW.trod_lt m _ _ _ hm
  obtain ⟨I0, w0, b0⟩ := open_inst (hval 0 26 v0 rfl rfl) h0
  clear hA0 hval0
  refine (walk I0 v0 W w0 b0 (words_of_laid hL)).mono fun e W' ⟨he, bel⟩ => ?_
  subst he
  exact ⟨_, rfl, _, _, _, [], _, [], hW', trodAll_mk1 (shut_bool Tryd.underlying4 _), (trodAll_cons_mk (Below.trod laidOut (by kernel_rfl) (of_decide_eq_true (by kernel_rfl)) k0 bel lt0) trodAll_mk0), rfl, bel.frame _, fun h => by cases h⟩

theorem over : Rows.instApartRow.holds Tryd.pinned (OpenSpec.ofChange Rows.instApartSpec) :=
  OpenClaim.holds_of_wide 5 Tryd.f5 rfl rfl rfl rfl rfl rfl rfl ⟨rfl, rfl, rfl, rfl, rfl⟩ rfl rfl rfl rfl rfl (by kernel_rfl) Tryd.func5 (by kernel_rfl)
    (of_decide_eq_true (by kernel_rfl)) (by unfold Func.isWrapper; first | (rw [if_pos (by decide +kernel)]; kernel_rfl) | (rw [if_neg (by decide +kernel)]; exact ⟨rfl, rfl⟩))
    (fun os started H enc _ => lifted os started H enc)

theorem card : Rows.InstApartCardSaid :=
  Claim7.holds_tied_plain_at .later [] [.data] true _ false
    over (fun _ h => by cases h) (by kernel_rfl) (fun _ h => by cases h) instApart_row_tie rfl ⟨rfl, rfl⟩ (by kernel_rfl) rfl
    (fun f fn hf hfn => by
      obtain rfl : f = 5 := Option.some.inj ((show Tryd.prog.funcNamed Rows.instApartRow.func = some 5 by kernel_rfl).symm.trans hf) |>.symm
      obtain rfl : fn = Tryd.f5 := (Option.some.inj (Tryd.func5.symm.trans hfn)).symm
      exact ⟨by kernel_rfl, fun j t ht => by
        rw [Tryd.params5] at ht
        have hm : t ∈ [26] := by simpa using Array.mem_of_getElem? ht
        have hall : ([26].all fun u => !Tryd.prog.wantsStandIn u) = true := by kernel_rfl
        exact (show Tryd.prog.wantsStandIn t = false by simpa using List.all_eq_true.1 hall t hm)⟩)
    (by kernel_rfl)

end Go.Proofs.YtoaibbcdkbddeaaDoor.instApart
namespace Go.Proofs.YtoaibbcdkbddeaaDoor
theorem instApart_holds : Rows.InstApartCardSaid := instApart.card
#print axioms instApart_holds
end Go.Proofs.YtoaibbcdkbddeaaDoor
