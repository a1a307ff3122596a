/-
  DeheapAlike (layer 7, P7.3): two heaps of unlike kinds to which the same is done tell the same: for every slice of entries and every slice of acts the law returns true, and both slices read as they did. No condition.
-/
import Derived.Test.YtiighhcilgjebaaDeTwo
import Derived.Test.YtiighhcilgjebaaDeFrame3
import Derived.Deep.CutRange
import Derived.Deep.CutBlock
import Derived.BigQuiet
import Derived.Deep.QuietTactic
namespace Go.Proofs.Ytiighhcilgjebaa.deheapAlike
open Go.Proofs.Ytiighhcilgjebaa
set_option maxRecDepth 100000
open Go.RowKit Go.Sort

abbrev EB (b : Nat) (x : En) : Bx := (b, #[.int .i64 x.b, .int .i64 x.d, .int .i64 x.s, .int .i64 x.i], 28)
abbrev AB (b : Nat) (o : Int) (x : En) (N : Int) : Bx := (b, #[.int .i64 o, .int .i64 x.b, .int .i64 x.d, .int .i64 x.s, .int .i64 x.i, .int .i64 N], 43)
theorem ecells {w0 W : World} {dg dh b : Nat} {kg kh : Bool} {m1 m2 : List En} {r : List (Value × List En)} {x : En} (q : St w0 dg kg m1 dh kh m2 [EB b x] r W) : W.cell? ⟨b, 0, none⟩ = some (.int .i64 x.b) ∧ W.cell? ⟨b, 1, none⟩ = some (.int .i64 x.d) ∧ W.cell? ⟨b, 2, none⟩ = some (.int .i64 x.s) ∧ W.cell? ⟨b, 3, none⟩ = some (.int .i64 x.i) := by
  have e := q.box (List.mem_cons_self)
  exact ⟨cell_of e 0, cell_of e 1, cell_of e 2, cell_of e 3⟩
theorem acells {w0 W : World} {dg dh b : Nat} {kg kh : Bool} {m1 m2 : List En} {r : List (Value × List En)} {x : En} {o N : Int} (q : St w0 dg kg m1 dh kh m2 [AB b o x N] r W) : W.cell? ⟨b, 1, none⟩ = some (.int .i64 x.b) ∧ W.cell? ⟨b, 2, none⟩ = some (.int .i64 x.d) ∧ W.cell? ⟨b, 3, none⟩ = some (.int .i64 x.s) ∧ W.cell? ⟨b, 4, none⟩ = some (.int .i64 x.i) ∧ W.cell? ⟨b, 5, none⟩ = some (.int .i64 N) := by
  have e := q.box (List.mem_cons_self)
  exact ⟨cell_of e 1, cell_of e 2, cell_of e 3, cell_of e 4, cell_of e 5⟩
abbrev KB (b : Nat) (x : En) : Bx := (b, #[.int .i64 x.b, .int .i64 x.d, .int .i64 x.s, .int .i64 x.i], 32)
theorem kcells {w0 W : World} {dg dh b : Nat} {kg kh : Bool} {m1 m2 : List En} {bx : List Bx} {r : List (Value × List En)} {x : En} (q : St w0 dg kg m1 dh kh m2 bx r W) (hb : KB b x ∈ bx) : W.cell? ⟨b, 0, none⟩ = some (.int .i64 x.b) ∧ W.cell? ⟨b, 1, none⟩ = some (.int .i64 x.d) ∧ W.cell? ⟨b, 2, none⟩ = some (.int .i64 x.s) ∧ W.cell? ⟨b, 3, none⟩ = some (.int .i64 x.i) := by
  have e := q.box hb
  exact ⟨cell_of e 0, cell_of e 1, cell_of e 2, cell_of e 3⟩
theorem own_at {w : World} {B n c j : Nat} {t : TypeId} {p : Option Addr} {l : List En} (h : w.ownsRow B t 4 (.slice p n c) n (flatE l)) (hn : l.length = n) (hj : j < n) : ∃ g, p = some ⟨g, 0, none⟩ ∧ g < w.heap.size ∧ w.cell? ⟨g, j * 4, none⟩ = some (.int .i64 (nth l j).b) ∧ w.cell? ⟨g, j * 4 + 1, none⟩ = some (.int .i64 (nth l j).d) ∧ w.cell? ⟨g, j * 4 + 2, none⟩ = some (.int .i64 (nth l j).s) ∧ w.cell? ⟨g, j * 4 + 3, none⟩ = some (.int .i64 (nth l j).i) := by
  obtain ⟨g, c', e, _, hlt⟩ := h.form (by omega)
  simp only [Value.slice.injEq, true_and] at e
  obtain ⟨rfl, rfl⟩ := e
  exact ⟨g, rfl, hlt, (own_list h).nth (by omega)⟩
theorem new_al (k : Bool) (w : World) : Calls Try.prog 17 #[.int .i64 (kN k), .int .i64 30] w (BulkOk k 30 [] w) := new_okD k 30 w (by decide) (by decide)
theorem St.start {w0 w1 w2 : World} {dg dh : Nat} (h1 : De w1 (fun b => w0.heap.size ≤ b ∧ b < w1.heap.size) dg false (srt []) 30) (b1 : Below w0.heap.size w0 w1) (h2 : De w2 (fun b => w1.heap.size ≤ b ∧ b < w2.heap.size) dh true (srt []) 30) (b2 : Below w1.heap.size w1 w2) : St w0 dg false [] dh true [] [] [] w2 := by
  have e0 : srt [] = [] := List.eq_nil_of_length_eq_zero (by rw [srt_length]; rfl)
  rw [e0] at h1 h2
  have s1 := b1.size
  exact ⟨_, _, h1.next b2, h2, fun b f f' => by omega, fun b f => by rcases f with f | f <;> omega, b1.trans (b2.mono s1), by simp, by simp⟩
set_option maxHeartbeats 40000000 in
theorem walk (a : Option Addr) (len cap : Nat) (z : Nat → En) (a2 : Option Addr) (len2 cap2 : Nat) (y : Nat → Int × En × Int) (w : World) (h : IsEnts w a len cap z) (h2 : IsActs w a2 len2 cap2 y) :
    Calls Try.prog 5 #[.slice a len cap, .slice a2 len2 cap2] w fun e w' => e = .returned (.bool true) ∧ Below w.heap.size w w' := by
  obtain ⟨hE, hlc, hcm⟩ := h
  obtain ⟨hA, hlc2, hcm2⟩ := h2
  unfold maxLen at hcm hcm2
  obtain ⟨L, eL⟩ : ∃ L, min len 30 = L := ⟨_, rfl⟩
  obtain ⟨hL, hL1, hL2⟩ : (min (len : Int) 30).toNat = L ∧ L ≤ len ∧ L ≤ 30 := ⟨by omega, by omega, by omega⟩
  clear eL
  obtain ⟨M, eM⟩ : ∃ M, min len2 40 = M := ⟨_, rfl⟩
  obtain ⟨hM, hM1, hM2⟩ : (min (len2 : Int) 40).toNat = M ∧ M ≤ len2 ∧ M ≤ 40 := ⟨by omega, by omega, by omega⟩
  clear eM
  have HE := Lib.hid (hE.less hL1)
  have HA := Lib.hid (hA.less hM1)
  have N1 := new_al false w
  rw [show kN false = 0 from rfl] at N1
  unfold BulkOk at N1
  clear hE hA
  go_enter Try.func5, Try.ntmps5
  go_wp2_with fail
  with_reducible refine N1.mono ?_
  rintro e w1 ⟨dg, rfl, hd1, be1⟩
  have N2 := new_al true w1
  rw [show kN true = 1 from rfl] at N2
  unfold BulkOk at N2
  have HD1 := Lib.hid hd1
  have HB1 := Lib.hid be1
  clear hd1 be1 N1
  go_wp2_with fail
  with_reducible refine N2.mono ?_
  rintro e w2 ⟨dh, rfl, hd2, be2⟩
  have HS2 := Lib.hid (St.start HD1.out HB1.out hd2 be2)
  clear hd2 be2 HD1 HB1 N2
  go_wp2_with fail
  with_reducible refine (wakes_any _).mono ?_
  rintro e w3 ⟨rfl, be3⟩
  have HS3 := Lib.hid (HS2.out.next be3)
  clear be3 HS2
  go_wp2
  go_loopw [55] (fun i wr => ∃ (j : Nat) (m : List En), j ≤ L ∧ m.length ≤ 30 ∧ i = .int .i64 (j : Int) ∧ St w dg false m dh true m [] [] wr) (fun i _ => L - (intOf i).toNat)
  case atStart => exact ⟨0, [], by omega, by simp, rfl, HS3.out⟩
  case round =>
    obtain ⟨j, m, hj, hm, rfl, hst⟩ := hrel
    obtain ⟨wq, hwq⟩ : ∃ q, q = wr := ⟨wr, rfl⟩
    subst hwq
    by_cases hlt : j < L
    · obtain ⟨ab, off, rfl, hb, hc⟩ := (HE.out.below hst.below).at_ (by omega)
      obtain ⟨c0, c1, c2, c3⟩ := hc j hlt
      generalize z j = x at *
      have c01 : (0 : Int) ≤ (j : Int) := by omega
      have c02 : (j : Int) < (L : Int) := by omega
      have B1 : Below wq.heap.size wq (wq.alloc (.cells #[.int .i64 x.b, .int .i64 x.d, .int .i64 x.s, .int .i64 x.i] 28)).drew := ((Below.refl _ _).alloc (Nat.le_refl _) _).drew
      have F := Lib.hid (hst.boxed (c := #[.int .i64 x.b, .int .i64 x.d, .int .i64 x.s, .int .i64 x.i]) (T := 28) (n := wq.heap.size) B1 (Nat.le_refl _) (heap_alloc_new wq (.cells #[.int .i64 x.b, .int .i64 x.d, .int .i64 x.s, .int .i64 x.i] 28)))
      have OX := of_any x
      have HM := Lib.hid hm
      unfold entV at OX
      have P1 : Hid (∀ r W, St w dg false m dh true m [EB wq.heap.size x] r W → Calls Try.prog 20 #[.pointer (some ⟨dg, 0, none⟩), .agg #[.int .i64 x.b, .int .i64 x.d, .int .i64 x.s, .int .i64 x.i]] W fun e w' => e = .returned (.int .i64 (St.pushE m)) ∧ St w dg false (St.pushM m x) dh true m [EB wq.heap.size x] r w') := Lib.hid fun r W q => q.push1 hm x
      have P2 : Hid (∀ r W, St w dg false (St.pushM m x) dh true m [EB wq.heap.size x] r W → Calls Try.prog 20 #[.pointer (some ⟨dh, 0, none⟩), .agg #[.int .i64 x.b, .int .i64 x.d, .int .i64 x.s, .int .i64 x.i]] W fun e w' => e = .returned (.int .i64 (St.pushE m)) ∧ St w dg false (St.pushM m x) dh true (St.pushM m x) [EB wq.heap.size x] r w') := Lib.hid fun r W q => q.push2 hm x
      clear hc hb hst B1 hm
      generalize St.pushE m = pe at *
      go_wp2
      go_region_held3 (fun w' => w'.cell? ⟨wq.heap.size, 0, none⟩ = some (.int .i64 x.b) ∧ w'.cell? ⟨wq.heap.size, 1, none⟩ = some (.int .i64 x.d) ∧ w'.cell? ⟨wq.heap.size, 2, none⟩ = some (.int .i64 x.s) ∧ w'.cell? ⟨wq.heap.size, 3, none⟩ = some (.int .i64 x.i)) (exact ecells F.out)
        (first
          | (go_at_call 7; (with_reducible refine (OX _).mono ?_); rintro e wn ⟨rfl, mo⟩; have F := Lib.hid (F.out.next mo.below); clear mo)
          | (go_at_call 20; (with_reducible refine (P1.out _ _ F.out).mono ?_); rintro e wn ⟨rfl, fn⟩; have F := Lib.hid fn; clear fn)
          | (go_at_call 20; (with_reducible refine (P2.out _ _ F.out).mono ?_); rintro e wn ⟨rfl, fn⟩; have F := Lib.hid fn; clear fn))
      have HF := Lib.hid (F.out.less (bx' := []) (rows' := []) (by simp) (by simp))
      have HL3 := Lib.hid (St.pushM_length (x := x) HM.out)
      clear F P1 P2 OX
      go_wp2
      go_roundw
      case rel => exact ⟨j + 1, St.pushM m x, by omega, HL3.out, by go_num, HF.out⟩
      case measure => simp [intOf]; omega
    · obtain rfl : j = L := by omega
      have nl : ¬ ((j : Int) < (j : Int)) := by omega
      have HST := Lib.hid hst
      have HM := Lib.hid hm
      clear hst hm
      go_wp2
      go_loopw [75] (fun i wr => ∃ (r : Nat) (m : List En), r ≤ M ∧ m.length ≤ 30 ∧ i = .int .i64 (r : Int) ∧ St w dg false m dh true m [] [] wr) (fun i _ => M - (intOf i).toNat)
      case atStart => exact ⟨0, m, by omega, HM.out, rfl, HST.out⟩
      case round =>
        obtain ⟨r, m, hr, hm, rfl, hst⟩ := hrel
        obtain ⟨wx, hwx⟩ : ∃ q, q = wr := ⟨wr, rfl⟩
        subst hwx
        by_cases hlt2 : r < M
        · obtain ⟨ab, off, rfl, hb2, hc⟩ := (HA.out.below hst.below).at_ (by omega)
          obtain ⟨c0, c1, c2, c3, c4, c5⟩ := hc r hlt2
          generalize (y r).1 = o at *
          generalize (y r).2.1 = x at *
          generalize (y r).2.2 = N at *
          have c01 : (0 : Int) ≤ (r : Int) := by omega
          have c02 : (r : Int) < (M : Int) := by omega
          have B1 : Below wx.heap.size wx (wx.alloc (.cells #[.int .i64 o, .int .i64 x.b, .int .i64 x.d, .int .i64 x.s, .int .i64 x.i, .int .i64 N] 43)) := (Below.refl _ _).alloc (Nat.le_refl _) _
          have F := Lib.hid (hst.boxed (c := #[.int .i64 o, .int .i64 x.b, .int .i64 x.d, .int .i64 x.s, .int .i64 x.i, .int .i64 N]) (T := 43) (n := wx.heap.size) B1 (Nat.le_refl _) (heap_alloc_new wx (.cells #[.int .i64 o, .int .i64 x.b, .int .i64 x.d, .int .i64 x.s, .int .i64 x.i, .int .i64 N] 43)))
          have OX := of_any x
          have HM2 := Lib.hid hm
          unfold entV at OX
          clear hc hb2 hst B1 hm
          go_upto_block 4 with fail
          go_cut [13, 14, 15, 16, 17, 18] from 76 to 157 (fun v1 v2 _ _ _ _ wc => ∃ (m' o' : List En), m'.length ≤ 30 ∧ o'.length ≤ 30 ∧ St w dg false m' dh true m' [] [(v1, o'), (v2, o')] wc)
          case first =>
            generalize (wx.alloc (.cells #[.int .i64 o, .int .i64 x.b, .int .i64 x.d, .int .i64 x.s, .int .i64 x.i, .int .i64 N] 43)) = wy at *
            rcases (show max 0 o % 4 = 0 ∨ max 0 o % 4 = 1 ∨ max 0 o % 4 = 2 ∨ max 0 o % 4 = 3 by omega) with hop | hop | hop | hop
            · obtain ⟨ml, hml⟩ : ∃ ml, evL m (min N (m.length : Int)).toNat = ml := ⟨_, rfl⟩
              obtain ⟨mo, hmo⟩ : ∃ mo, evO m (min N (m.length : Int)).toNat = mo := ⟨_, rfl⟩
              have HLE : Hid (ml.length ≤ 30) := Lib.hid (by rw [← hml, evL_length]; have := HM2.out; omega)
              have HLO : Hid (mo.length ≤ 30) := Lib.hid (by rw [← hmo]; have := HM2.out; simp [evO_length]; omega)
              have E1 : Hid (∀ r W, St w dg false m dh true m [AB wx.heap.size o x N] r W → Calls Try.prog 21 #[.pointer (some ⟨dg, 0, none⟩), .int .i64 N] W fun e w' => ∃ v, e = .returned v ∧ St w dg false ml dh true m [AB wx.heap.size o x N] ((v, mo) :: r) w') := Lib.hid fun r W q => by
                have := q.evict1 HM2.out N
                rwa [hml, hmo] at this
              have E2 : Hid (∀ r W, St w dg false ml dh true m [AB wx.heap.size o x N] r W → Calls Try.prog 21 #[.pointer (some ⟨dh, 0, none⟩), .int .i64 N] W fun e w' => ∃ v, e = .returned v ∧ St w dg false ml dh true ml [AB wx.heap.size o x N] ((v, mo) :: r) w') := Lib.hid fun r W q => by
                have := q.evict2 HM2.out N
                rwa [hml, hmo] at this
              clear hml hmo
              have F0 := Lib.hid (F.out.next (Below.refl _ _).drew)
              clear F
              have F := F0
              clear F0
              go_wp2
              go_region_held3 (fun w' => w'.cell? ⟨wx.heap.size, 5, none⟩ = some (.int .i64 N)) (exact (acells F.out).2.2.2.2)
                (first
                  | (go_at_call 21; (with_reducible refine (E1.out _ _ F.out).mono ?_); rintro e wn ⟨v1, rfl, fn⟩; have F := Lib.hid fn; clear fn)
                  | (go_at_call 21; (with_reducible refine (E2.out _ _ F.out).mono ?_); rintro e wn ⟨v2, rfl, fn⟩; have F := Lib.hid fn; clear fn))
              have HF := Lib.hid (F.out.less (bx' := []) (rows' := [(v1, mo), (v2, mo)]) (by simp) (by intro r hr; simp at hr ⊢; rcases hr with rfl | rfl <;> simp))
              clear F E1 E2 OX
              go_wp2
              go_meet
              exact ⟨ml, mo, HLE.out, HLO.out, HF.out⟩
            · obtain ⟨ml, hml⟩ : ∃ ml, evL m (cutN m x.b) = ml := ⟨_, rfl⟩
              obtain ⟨mo, hmo⟩ : ∃ mo, (evO m (cutN m x.b)).reverse = mo := ⟨_, rfl⟩
              have HLE : Hid (ml.length ≤ 30) := Lib.hid (by rw [← hml, evL_length]; have := HM2.out; omega)
              have HLO : Hid (mo.length ≤ 30) := Lib.hid (by rw [← hmo]; have := HM2.out; simp [evO_length]; omega)
              have E1 : Hid (∀ r W, St w dg false m dh true m [AB wx.heap.size o x N] r W → Calls Try.prog 22 #[.pointer (some ⟨dg, 0, none⟩), .int .i64 x.b] W fun e w' => ∃ v, e = .returned v ∧ St w dg false ml dh true m [AB wx.heap.size o x N] ((v, mo) :: r) w') := Lib.hid fun r W q => by
                have := q.drop1 HM2.out x.b
                rwa [hml, hmo] at this
              have E2 : Hid (∀ r W, St w dg false ml dh true m [AB wx.heap.size o x N] r W → Calls Try.prog 22 #[.pointer (some ⟨dh, 0, none⟩), .int .i64 x.b] W fun e w' => ∃ v, e = .returned v ∧ St w dg false ml dh true ml [AB wx.heap.size o x N] ((v, mo) :: r) w') := Lib.hid fun r W q => by
                have := q.drop2 HM2.out x.b
                rwa [hml, hmo] at this
              clear hml hmo
              have F0 := Lib.hid (F.out.next (Below.refl _ _).drew)
              clear F
              have F := F0
              clear F0
              go_wp2
              go_region_held3 (fun w' => w'.cell? ⟨wx.heap.size, 1, none⟩ = some (.int .i64 x.b)) (exact (acells F.out).1)
                (first
                  | (go_at_call 22; (with_reducible refine (E1.out _ _ F.out).mono ?_); rintro e wn ⟨v1, rfl, fn⟩; have F := Lib.hid fn; clear fn)
                  | (go_at_call 22; (with_reducible refine (E2.out _ _ F.out).mono ?_); rintro e wn ⟨v2, rfl, fn⟩; have F := Lib.hid fn; clear fn))
              have HF := Lib.hid (F.out.less (bx' := []) (rows' := [(v1, mo), (v2, mo)]) (by simp) (by intro r hr; simp at hr ⊢; rcases hr with rfl | rfl <;> simp))
              clear F E1 E2 OX
              go_wp2
              go_meet
              exact ⟨ml, mo, HLE.out, HLO.out, HF.out⟩
            · have P1 : Hid (∀ r W, St w dg false m dh true m [AB wx.heap.size o x N] r W → Calls Try.prog 20 #[.pointer (some ⟨dg, 0, none⟩), .agg #[.int .i64 x.b, .int .i64 x.d, .int .i64 x.s, .int .i64 x.i]] W fun e w' => e = .returned (.int .i64 (St.pushE m)) ∧ St w dg false (St.pushM m x) dh true m [AB wx.heap.size o x N] r w') := Lib.hid fun r W q => q.push1 HM2.out x
              have P2 : Hid (∀ r W, St w dg false (St.pushM m x) dh true m [AB wx.heap.size o x N] r W → Calls Try.prog 20 #[.pointer (some ⟨dh, 0, none⟩), .agg #[.int .i64 x.b, .int .i64 x.d, .int .i64 x.s, .int .i64 x.i]] W fun e w' => e = .returned (.int .i64 (St.pushE m)) ∧ St w dg false (St.pushM m x) dh true (St.pushM m x) [AB wx.heap.size o x N] r w') := Lib.hid fun r W q => q.push2 HM2.out x
              have F0 := Lib.hid (F.out.next (Below.refl _ _).drew)
              clear F
              have F := F0
              clear F0
              generalize St.pushE m = pe at *
              go_wp2
              go_region_held3 (fun w' => w'.cell? ⟨wx.heap.size, 1, none⟩ = some (.int .i64 x.b) ∧ w'.cell? ⟨wx.heap.size, 2, none⟩ = some (.int .i64 x.d) ∧ w'.cell? ⟨wx.heap.size, 3, none⟩ = some (.int .i64 x.s) ∧ w'.cell? ⟨wx.heap.size, 4, none⟩ = some (.int .i64 x.i)) (exact ⟨(acells F.out).1, (acells F.out).2.1, (acells F.out).2.2.1, (acells F.out).2.2.2.1⟩)
                (first
                  | (go_at_call 7; (with_reducible refine (OX _).mono ?_); rintro e wn ⟨rfl, mo⟩; have F := Lib.hid (F.out.next mo.below); clear mo)
                  | (go_at_call 20; (with_reducible refine (P1.out _ _ F.out).mono ?_); rintro e wn ⟨rfl, fn⟩; have F := Lib.hid fn; clear fn)
                  | (go_at_call 20; (with_reducible refine (P2.out _ _ F.out).mono ?_); rintro e wn ⟨rfl, fn⟩; have F := Lib.hid fn; clear fn))
              have HF := Lib.hid ((F.out.less (bx' := []) (rows' := []) (by simp) (by simp)).nilrow.nilrow)
              have HLE := Lib.hid (St.pushM_length (x := x) HM2.out)
              clear F P1 P2 OX
              go_wp2
              go_meet
              exact ⟨St.pushM m x, [], HLE.out, by simp, HF.out⟩
            · obtain ⟨z, hz⟩ : ∃ z, hdE false m = z := ⟨_, rfl⟩
              obtain ⟨d, hd⟩ : ∃ d, decide (0 < m.length) = d := ⟨_, rfl⟩
              obtain ⟨ml, hml⟩ : ∃ ml, tlE false m = ml := ⟨_, rfl⟩
              have HLE : Hid (ml.length ≤ 30) := Lib.hid (by rw [← hml]; have := HM2.out; unfold tlE; simp; omega)
              have P1 := F.out.popMin1 HM2.out
              have E2 : Hid (∀ bx r W, St w dg false ml dh true m bx r W → Calls Try.prog 23 #[.pointer (some ⟨dh, 0, none⟩)] W fun e w' => e = .returned (.tuple #[.agg #[.int .i64 z.b, .int .i64 z.d, .int .i64 z.s, .int .i64 z.i], .bool d]) ∧ St w dg false ml dh true ml bx r w') := Lib.hid fun bx r W q => by
                have := q.popMin2 HM2.out
                rwa [hz, hd, hml] at this
              rw [hz, hd, hml] at P1
              unfold entV at P1
              clear hz hd hml F OX
              go_wp2_with fail
              with_reducible refine P1.mono ?_
              rintro e w4 ⟨rfl, f4⟩
              have F5 := f4.boxed (n := w4.heap.size) (c := #[.int .i64 z.b, .int .i64 z.d, .int .i64 z.s, .int .i64 z.i]) (T := 32) (w' := w4.alloc (.cells #[.int .i64 z.b, .int .i64 z.d, .int .i64 z.s, .int .i64 z.i] 32)) ((Below.refl _ _).alloc (Nat.le_refl _) _) (Nat.le_refl _) (heap_alloc_new w4 (.cells #[.int .i64 z.b, .int .i64 z.d, .int .i64 z.s, .int .i64 z.i] 32))
              have P2 := E2.out _ _ _ F5
              clear f4 F5 P1 E2
              go_wp2_with fail
              with_reducible refine P2.mono ?_
              rintro e w6 ⟨rfl, f6⟩
              have F7 := Lib.hid (f6.boxed (n := w6.heap.size) (c := #[.int .i64 z.b, .int .i64 z.d, .int .i64 z.s, .int .i64 z.i]) (T := 32) (w' := w6.alloc (.cells #[.int .i64 z.b, .int .i64 z.d, .int .i64 z.s, .int .i64 z.i] 32)) ((Below.refl _ _).alloc (Nat.le_refl _) _) (Nat.le_refl _) (heap_alloc_new w6 (.cells #[.int .i64 z.b, .int .i64 z.d, .int .i64 z.s, .int .i64 z.i] 32)))
              clear f6 P2
              go_wp2
              generalize (w6.alloc (.cells #[.int .i64 z.b, .int .i64 z.d, .int .i64 z.s, .int .i64 z.i] 32)) = w7 at *
              have BA : Below w7.heap.size w7 (w7.alloc (.cells #[.int .i64 z.b, .int .i64 z.d, .int .i64 z.s, .int .i64 z.i] 32)).drew := ((Below.refl _ _).alloc (Nat.le_refl _) _).drew
              have BC : Below w7.heap.size w7 ((w7.alloc (.cells #[.int .i64 z.b, .int .i64 z.d, .int .i64 z.s, .int .i64 z.i] 32)).alloc (.cells #[.int .i64 z.b, .int .i64 z.d, .int .i64 z.s, .int .i64 z.i] 32)).drew := (((Below.refl _ _).alloc (Nat.le_refl _) _).alloc (by simp) _).drew
              have f0 := F7.out.next (Below.refl _ _).drew
              have f1 := F7.out.next BA
              have f2 := F7.out.next BC
              have HR := Lib.hid ((F7.out.rowedL BC _ (two_rows w7 z)).less (bx' := []) (rows' := [((Value.slice (some ⟨w7.heap.size, 0, none⟩) 1 1), [z]), ((Value.slice (some ⟨w7.heap.size + 1, 0, none⟩) 1 1), [z])]) (by simp) (by intro r hr; simp at hr ⊢; rcases hr with rfl | rfl <;> simp))
              have C0 := Lib.hid (And.intro (kcells f0 (b := w4.heap.size) (x := z) (by simp)) (kcells f0 (b := w6.heap.size) (x := z) (by simp)))
              have C1 := Lib.hid (And.intro (kcells f1 (b := w4.heap.size) (x := z) (by simp)) (kcells f1 (b := w6.heap.size) (x := z) (by simp)))
              have C2 := Lib.hid (And.intro (kcells f2 (b := w4.heap.size) (x := z) (by simp)) (kcells f2 (b := w6.heap.size) (x := z) (by simp)))
              clear f0 f1 f2 BA BC F7
              go_region_held3 (fun w' => (w'.cell? ⟨w4.heap.size, 0, none⟩ = some (.int .i64 z.b) ∧ w'.cell? ⟨w4.heap.size, 1, none⟩ = some (.int .i64 z.d) ∧ w'.cell? ⟨w4.heap.size, 2, none⟩ = some (.int .i64 z.s) ∧ w'.cell? ⟨w4.heap.size, 3, none⟩ = some (.int .i64 z.i)) ∧ (w'.cell? ⟨w6.heap.size, 0, none⟩ = some (.int .i64 z.b) ∧ w'.cell? ⟨w6.heap.size, 1, none⟩ = some (.int .i64 z.d) ∧ w'.cell? ⟨w6.heap.size, 2, none⟩ = some (.int .i64 z.s) ∧ w'.cell? ⟨w6.heap.size, 3, none⟩ = some (.int .i64 z.i))) (first | exact C0.out | exact C1.out | exact C2.out)
                (first | fail)
              · clear C0 C1 C2
                go_wp2
                go_meet
                exact ⟨ml, [z], HLE.out, by simp, HR.out⟩
              · clear C0 C1 C2
                go_wp2
                go_meet
                exact ⟨ml, [z], HLE.out, by simp, HR.out.less (by simp) (by intro r hr; simp at hr ⊢; rcases hr with rfl | rfl <;> simp)⟩
          case rest =>
            obtain ⟨m', o', hm', ho30, hst'⟩ := hcut
            obtain ⟨wb, hwb⟩ : ∃ q, q = wc := ⟨wc, rfl⟩
            subst hwb
            have r1 := hst'.row (List.mem_cons_self)
            have r2 := hst'.row (List.mem_cons_of_mem _ List.mem_cons_self)
            obtain ⟨p1, q1, rfl⟩ := own_slice r1
            obtain ⟨p2, q2, rfl⟩ := own_slice r2
            obtain ⟨n, hn⟩ : ∃ n, o'.length = n := ⟨_, rfl⟩
            have HON := Lib.hid hn
            rw [hn] at r1 r2 ho30 ⊢
            have HR1 := Lib.hid r1
            have HR2 := Lib.hid r2
            have HSB := Lib.hid (hst'.less (bx' := []) (rows' := []) (by simp) (by simp))
            have HMB := Lib.hid hm'
            clear r1 r2 hn hst' hm' F OX HM2
            go_wp2
            go_loopw [144] (fun i wz => ∃ s : Nat, s ≤ n ∧ i = .int .i64 (s : Int) ∧ Below wb.heap.size wb wz) (fun i _ => n - (intOf i).toNat)
            case atStart => exact ⟨0, by omega, rfl, Below.refl _ _⟩
            case round =>
              obtain ⟨s, hs, rfl, hbz⟩ := hrel
              have HBZ := Lib.hid hbz
              clear hbz
              obtain ⟨wu, hwu⟩ : ∃ q, q = wr := ⟨wr, rfl⟩
              subst hwu
              by_cases hlt3 : s < n
              · obtain ⟨g1, rfl, hg1, a0, a1, a2, a3⟩ := own_at (own_kept HR1.out HBZ.out) HON.out hlt3
                obtain ⟨g2, rfl, hg2, b0, b1, b2, b3⟩ := own_at (own_kept HR2.out HBZ.out) HON.out hlt3
                generalize nth o' s = x at *
                have d01 : (0 : Int) ≤ (s : Int) := by omega
                have d02 : (s : Int) < (n : Int) := by omega
                go_wp2
                go_quiet (fail)
                have HB5 := Lib.hid (HBZ.out.trans ((below_drewN wu nq).mono HBZ.out.size))
                clear HBZ
                go_wp2
                go_roundw
                case rel => exact ⟨s + 1, by omega, by go_num, HB5.out⟩
                case measure => simp [intOf]; omega
              · obtain rfl : s = n := by omega
                have nl3 : ¬ ((s : Int) < (s : Int)) := by omega
                go_wp2
                go_roundw
                case rel => exact ⟨r + 1, m', by omega, HMB.out, by go_num, HSB.out.next HBZ.out⟩
                case measure => simp [intOf]; omega
        · obtain rfl : r = M := by omega
          have nl2 : ¬ ((r : Int) < (r : Int)) := by omega
          have S1 := hst.sorted1 hm
          have HM9 := Lib.hid hm
          have E2 : Hid (∀ rw_ W, St w dg false m dh true m [] rw_ W → Calls Try.prog 16 #[.pointer (some ⟨dh, 0, none⟩)] W fun e w' => ∃ v, e = .returned v ∧ St w dg false m dh true m [] ((v, m) :: rw_) w') := Lib.hid fun rw_ W q => q.sorted2 hm
          clear hst hm
          go_wp2_with fail
          with_reducible refine S1.mono ?_
          rintro e w5 ⟨v5, rfl, f5⟩
          have S2 := E2.out _ _ f5
          clear f5 S1 E2
          go_wp2_with fail
          with_reducible refine S2.mono ?_
          rintro e w6 ⟨v6, rfl, f6⟩
          obtain ⟨wb, hwb⟩ : ∃ q, q = w6 := ⟨w6, rfl⟩
          subst hwb
          have r1 := f6.row (List.mem_cons_of_mem _ List.mem_cons_self)
          have r2 := f6.row (List.mem_cons_self)
          obtain ⟨p1, q1, rfl⟩ := own_slice r1
          obtain ⟨p2, q2, rfl⟩ := own_slice r2
          obtain ⟨n, hn⟩ : ∃ n, m.length = n := ⟨_, rfl⟩
          have HON := Lib.hid hn
          have hn30 : n ≤ 30 := by have := HM9.out; omega
          rw [hn] at r1 r2 ⊢
          have HR1 := Lib.hid r1
          have HR2 := Lib.hid r2
          have HB6 := Lib.hid f6.below
          clear r1 r2 hn f6 S2
          go_wp2
          go_loopw [169] (fun i wz => ∃ s : Nat, s ≤ n ∧ i = .int .i64 (s : Int) ∧ Below wb.heap.size wb wz) (fun i _ => n - (intOf i).toNat)
          case atStart => exact ⟨0, by omega, rfl, Below.refl _ _⟩
          case round =>
            obtain ⟨s, hs, rfl, hbz⟩ := hrel
            have HBZ := Lib.hid hbz
            clear hbz
            obtain ⟨wu, hwu⟩ : ∃ q, q = wr := ⟨wr, rfl⟩
            subst hwu
            by_cases hlt3 : s < n
            · obtain ⟨g1, rfl, hg1, a0, a1, a2, a3⟩ := own_at (own_kept HR1.out HBZ.out) HON.out hlt3
              obtain ⟨g2, rfl, hg2, b0, b1, b2, b3⟩ := own_at (own_kept HR2.out HBZ.out) HON.out hlt3
              generalize nth m s = x at *
              have d01 : (0 : Int) ≤ (s : Int) := by omega
              have d02 : (s : Int) < (n : Int) := by omega
              go_wp2
              go_quiet (fail)
              have HB5 := Lib.hid (HBZ.out.trans ((below_drewN wu nq).mono HBZ.out.size))
              clear HBZ
              go_wp2
              go_roundw
              case rel => exact ⟨s + 1, by omega, by go_num, HB5.out⟩
              case measure => simp [intOf]; omega
            · obtain rfl : s = n := by omega
              have nl3 : ¬ ((s : Int) < (s : Int)) := by omega
              go_wp2
              go_ret
              exact ⟨rfl, HB6.out.trans (HBZ.out.mono HB6.out.size)⟩
/-! ### the row -/
open Go.ChangeShapes Go.WideShapes Go.ChangeAt
set_option maxRecDepth 100000 in
theorem lifted (os : Os) (started : os.Started) (H : Type) (enc : TypeId × Value → H) :
    ReturnsInHanded {} Try.checked os 5 .any (Rows.deheapAlikeSpec.pre6 enc Try.prog Try.f5 Rows.deheapAlikeRow.domain false) (Rows.deheapAlikeSpec.post enc Try.prog Try.f5 false true false false) := by
  refine returnsInHanded_of_change (C := Try.checked) own started (by kernel_rfl) Try.func5
    (ChangeSpec.witness6 (enc := enc) (C := Try.checked) false ⟨#[], #[.slice none 0 0, .slice none 0 0], []⟩ 8 (by kernel_rfl) (by kernel_rfl) (by kernel_rfl) (by kernel_rfl)) ?_
  intro W base args ds gs before hval0 hW hcnd _
  have hval : ∀ (j : Nat) t v, Try.f5.params[j]? = some t → args[j]? = some v → Value.okWide Try.prog W .any base t v := hval0
  have hW' := hW
  obtain ⟨p, q, hA0, hV, rfl, hfz, hnd⟩ := hW
  have hA : DataW.TrodAll enc Try.prog W 0 (fun _ => true) true Try.f5.params.toList args.toList ds p := hA0
  rw [Try.params5] at hA hval
  obtain ⟨v0, vs0, d0, ds0, p0, q0, hargs, rfl, rfl, h0, r0⟩ := trodAll_cons hA
  obtain ⟨v1, vs1, d1, ds1, p1, q1, rfl, rfl, rfl, h1, r1⟩ := trodAll_cons r0
  obtain ⟨rfl, rfl, rfl⟩ := trodAll_nil r1
  obtain rfl : args = #[v0, v1] := by cases args; simp_all
  obtain ⟨rfl, rfl⟩ := trodVars_none hV
  have k0 := h0
  have lt0 : ∀ x ∈ p0, x.block < W.heap.size := by obtain ⟨m, hm⟩ := k0; exact DataW.trod_lt m _ _ _ hm
  obtain ⟨x0, l0, c0, zs0, w0, rfl⟩ := open_ents (hval 0 22 v0 rfl rfl) h0
  have k1 := h1
  have lt1 : ∀ x ∈ p1, x.block < W.heap.size := by obtain ⟨m, hm⟩ := k1; exact DataW.trod_lt m _ _ _ hm
  obtain ⟨x1, l1, c1, zs1, w1, rfl⟩ := open_acts (hval 1 23 v1 rfl rfl) h1
  clear hA0 hval0
  refine (walk x0 l0 c0 zs0 x1 l1 c1 zs1 W w0 w1).mono fun e W' ⟨he, bel⟩ => ?_
  subst he
  exact ⟨_, rfl, _, _, _, [], _, [], hW', trodAll_mk1 (shut_bool Try.underlying4 _), (trodAll_cons_mk (Below.trod laidOut (by kernel_rfl) (of_decide_eq_true (by kernel_rfl)) k0 bel lt0) (trodAll_cons_mk (Below.trod laidOut (by kernel_rfl) (of_decide_eq_true (by kernel_rfl)) k1 bel lt1) trodAll_mk0)), rfl, bel.frame _, fun h => by cases h⟩

theorem over : Rows.deheapAlikeRow.holds Try.pinned (OpenSpec.ofChange Rows.deheapAlikeSpec) :=
  OpenClaim.holds_of_wide 5 Try.f5 rfl rfl rfl rfl rfl rfl rfl ⟨rfl, rfl, rfl, rfl, rfl⟩ rfl rfl rfl rfl rfl (by kernel_rfl) Try.func5 (by kernel_rfl)
    (of_decide_eq_true (by kernel_rfl)) (by unfold Func.isWrapper; first | (rw [if_pos (by decide +kernel)]; kernel_rfl) | (rw [if_neg (by decide +kernel)]; exact ⟨rfl, rfl⟩))
    (fun os started H enc _ => lifted os started H enc)

end Go.Proofs.Ytiighhcilgjebaa.deheapAlike
namespace Go.Proofs.Ytiighhcilgjebaa
theorem deheapAlike_holds : Rows.DeheapAlikeSaid := deheapAlike.over
#print axioms deheapAlike_holds
end Go.Proofs.Ytiighhcilgjebaa
