/-
  BitsetHolds: whatever numbers are put in and taken out, what is in the set is the document's answer, behind each (P3.1, P3.2). Conditions: those of the given row (the library's table of math/bits lies as its initialiser lays it).
-/
import Derived.Test.YtooehfjappckmaaDoorWakeWalks
import Derived.Test.YtooehfjappckmaaDoorMadeWalks
namespace Go.Proofs.YtooehfjappckmaaDoor.bitsetHolds
set_option maxRecDepth 100000
open Go.RowKit

/-- The slice (x, len) has the truths B for its elements. -/
structure Truths (w : World) (x : Option Addr) (len : Nat) (B : Nat → Bool) : Prop where
  mk ::
  at_ : 0 < len → ∃ b off, x = some ⟨b, off, none⟩ ∧ b < w.heap.size ∧ ∀ i, i < len → w.cell? ⟨b, off + i, none⟩ = some (.bool (B i))
theorem Truths.below {w w' : World} {x : Option Addr} {len : Nat} {B : Nat → Bool} (h : Truths w x len B) (hb : Below w.heap.size w w') : Truths w' x len B := by
  refine ⟨fun h0 => ?_⟩
  obtain ⟨b, off, h1, h2, h3⟩ := h.at_ h0
  exact ⟨b, off, h1, Nat.lt_of_lt_of_le h2 hb.size, fun i hi => by rw [hb.cell (by exact h2)]; exact h3 i hi⟩
theorem truths_of {w : World} {a : Option Addr} {len cap : Nat} {B : Nat → Bool} (h : IsBools w a len cap B) : Truths w a len B ∧ len ≤ cap ∧ cap ≤ maxLen := by
  rcases h with ⟨rfl, rfl, rfl⟩ | ⟨x, rfl, h1, h2, h3⟩
  · exact ⟨⟨fun h0 => by omega⟩, Nat.le_refl _, Nat.zero_le _⟩
  · refine ⟨⟨fun h0 => ?_⟩, h1, h2⟩
    obtain ⟨b, off, spot⟩ := x
    have hspot : spot = none := by simpa [Addr.add] using World.cell?_spot (h3 0 (by omega))
    subst hspot
    have hc : ∀ i, i < len → w.cell? ⟨b, off + i, none⟩ = some (.bool (B i)) := fun j hj => by rw [← Go.WideShapes.add_plain]; exact h3 j (by omega)
    exact ⟨b, off, rfl, World.block_lt_of_cell? _ _ (hc 0 h0), hc⟩

/-- What both loops keep. -/
structure Kept (w : World) (n b : Nat) (y : Option Addr) (d : Nat) (p : Nat → Bool) (wr : World) : Prop where
  mk ::
  S : Both n b y d p wr
  ok : LibOk wr
  B : Below w.heap.size w wr
theorem Kept.next {w wr w' : World} {n b : Nat} {y : Option Addr} {d : Nat} {p : Nat → Bool} (h : Kept w n b y d p wr) (hb : Below wr.heap.size wr w') : Kept w n b y d p w' :=
  ⟨h.S.next hb, h.ok.below hb, on h.B hb⟩

theorem _root_.Go.Proofs.YtooehfjappckmaaDoor.LibOk.below_store {w : World} (h : LibOk w) {b : Nat} {u v : Value} (hb : 0 < b) : LibOk ((w.setCell ⟨b, 0, none⟩ u).setCell ⟨b, 1, none⟩ v) := by
  refine ⟨fun j hj => ?_, by simpa [World.setCell] using h.lt⟩
  rw [World.cell?_of_block (w := w) (a := ⟨0, j, none⟩) (heap_store w u v (by show 0 ≠ b; omega))]
  exact h.tab j hj
theorem Kept.stored {w wr : World} {n b g : Nat} {y : Option Addr} {d : Nat} {p : Nat → Bool} {z : Int} (h : Kept w n b y d p wr) (hc : wr.cell? ⟨g, 0, none⟩ = some (.int .i64 z)) (u v : Value) (hbg : b ≠ g) (h0 : 0 < g) (hw : w.heap.size ≤ g) : Kept w n b y d p ((wr.setCell ⟨g, 0, none⟩ u).setCell ⟨g, 1, none⟩ v) := by
  obtain ⟨⟨⟨x, c, h1, h2⟩, h3⟩, h4, h5⟩ := h
  exact ⟨⟨⟨x, c, h1.kept (heap_store _ _ _ hbg), SetAt.stored h2 hc⟩, BoolsAt.stored h3 hc⟩, h4.below_store h0, store_below h5 hw _ _⟩

set_option maxHeartbeats 20000000 in
theorem walk (a : Int) (x : Option Addr) (len cap : Nat) (zs : List Int) (xo : Option Addr) (lo co : Nat) (Bo : Nat → Bool) (w : World) (ha : I64 a) (hx : IsRow w x len cap zs) (ho : IsBools w xo lo co Bo) (hL : LibOk w) :
    Calls Tryd.prog 4 #[.int .i64 a, .slice x len cap, .slice xo lo co] w fun e w' => e = .returned (.bool true) ∧ Below w.heap.size w w' := by
  obtain ⟨l1, l2⟩ := row_cap hx
  have HN := Lib.hid fun L hL => nums_of (L := L) hx hL
  obtain ⟨to1, o1, o2⟩ := truths_of ho
  have HTO := Lib.hid to1
  have MA := made_any a none 0 0 [] w ha (Nat.le_refl _) (Nat.zero_le _) (fun L hL => ⟨fun i hi => by omega, fun h0 => by omega⟩)
  have hzl := sz_lt a
  generalize sz a = n at *
  have HL := Lib.hid hL
  have hpos : 0 < w.heap.size := Nat.lt_of_le_of_lt (Nat.zero_le _) hL.lt
  unfold maxLen at l2 o2
  obtain ⟨M, hM, hM1, hM2⟩ : ∃ L : Nat, min (len : Int) 60 = (L : Int) ∧ L ≤ len ∧ L ≤ 60 := ⟨min len 60, by omega, by omega, by omega⟩
  clear hx ho to1 hL ha
  go_enter Tryd.func4, Tryd.ntmps4
  go_wp2_with fail
  with_reducible refine MA.mono ?_
  rintro e w1 ⟨⟨p, s, c, y, d, rfl, S1, D1⟩, b1⟩
  have ba := one_below w1 (.cells #[.int .i64 n, .slice s (nw n) c] 25)
  have bw := on b1 ba
  have hK : Hid (Kept w n w1.heap.size y d p (w1.alloc (.cells #[.int .i64 n, .slice s (nw n) c] 25))) := ⟨⟨⟨s, c, sbox_new w1 _ _ _, S1.below ba⟩, D1.below ba⟩, HL.out.below bw, bw⟩
  have hw1 := b1.size
  clear S1 D1 b1 ba bw MA HL
  go_wp2
  go_loopw [8, 27] (fun t i wr => ∃ (k : Nat) (p : Nat → Bool) (y : Option Addr) (d : Nat), k ≤ M ∧ i = .int .i64 k ∧ t = .slice y n d ∧ Kept w n w1.heap.size y d p wr) (fun _ i _ => M - (intOf i).toNat)
  case atStart => exact ⟨0, p, y, d, by omega, rfl, rfl, hK.out⟩
  case round =>
    clear hK
    obtain ⟨i, p, y, d, hi, rfl, rfl, hK⟩ := hrel
    by_cases hlt : i < M
    · obtain ⟨b, off, rfl, hb, hcell⟩ := ((HN.out M hM1).below hK.B).at_ (by omega)
      have hck := hcell i hlt
      have hik := (HN.out M hM1).ok i hlt
      generalize zs.getD i 0 = v at *
      obtain ⟨v0, v1⟩ := hik
      have hm2 := sz_eq v
      have hm3 := sz_lt v
      generalize sz v = m at *
      obtain ⟨wO, hwO⟩ : ∃ z, z = wr := ⟨wr, rfl⟩
      subst hwO
      have HK1 := Lib.hid (hK.next (one_below wO (.cells #[.int .i64 v, .int .i64 m] 3)))
      have HV := Lib.hid (sbox_new wO (.int .i64 v) (.int .i64 m) 3)
      have hwO := hK.B.size
      have hwO2 : w1.heap.size < wO.heap.size := by obtain ⟨⟨_, _, T, _⟩, _⟩ := hK.S; exact T.size
      clear hcell hK
      go_wp2
      go_loopw [8, 38] (fun t j wr => ∃ (k : Nat) (p : Nat → Bool) (y : Option Addr) (d : Nat), k ≤ 2 ∧ j = .int .i64 k ∧ t = .slice y n d ∧ Kept w n w1.heap.size y d p wr ∧ SBox wO.heap.size (.int .i64 v) (.int .i64 m) wr) (fun _ j _ => 2 - (intOf j).toNat)
      case atStart => exact ⟨0, p, y, d, by omega, rfl, rfl, HK1.out, HV.out⟩
      case round =>
        clear HK1 HV hck hm2
        obtain ⟨k, p, y, d, hk, rfl, rfl, hK, hV⟩ := hrel
        by_cases hlt2 : k < 2
        · obtain ⟨u, hc, hu⟩ : ∃ u, wr.cell? ⟨wO.heap.size, k, none⟩ = some (.int .i64 u) ∧ I64 u := by
            match k, hlt2 with
            | 0, _ => exact ⟨v, hV.c0, ⟨v0, v1⟩⟩
            | 1, _ => exact ⟨m, hV.c1, ⟨by omega, by omega⟩⟩
          obtain ⟨u0, u1⟩ := hu
          have hvs := hV.size
          have HV := Lib.hid hV
          have HK := Lib.hid hK
          obtain ⟨⟨s, c, T, S⟩, D⟩ := hK.S
          have HD := Lib.hid D
          have HS := Lib.hid S
          have HT := Lib.hid T
          have hle := S.le
          have hout := S.out
          have LI := list_any n s c p wr S hK.ok
          have hT := T.size
          obtain ⟨t0, t1, t2, t3, t4⟩ := T
          have HTr : Hid (Truths wr xo lo Bo) := HTO.out.below hK.B
          clear hK hV S D
          go_wp2_with fail
          with_reducible refine LI.mono ?_
          rintro e w2 ⟨⟨yl, cl, rfl, NL⟩, b2⟩
          have WI := with_any n s c p u w2 (HS.out.below b2)
          have HV := Lib.hid (HV.out.next b2)
          have HK := Lib.hid (HK.out.next b2)
          have HD := Lib.hid (HD.out.below b2)
          have HS := Lib.hid (HS.out.below b2)
          have HT := Lib.hid (HT.out.next b2)
          have HTr := Lib.hid (HTr.out.below b2)
          have HX2 := b2.size
          clear b2 NL t0 t1 t2 t3 t4 hc LI
          obtain ⟨t0, t1, t2, t3, t4⟩ := HT.out
          go_wp2_with fail
          with_reducible refine WI.mono ?_
          rintro e w3 ⟨⟨sU, cU, rfl, SU⟩, b3⟩
          have b4 := on b3 (one_below w3 (.cells #[.int .i64 n, .slice sU (nw n) cU] 25))
          have HTU := Lib.hid (sbox_new w3 (.int .i64 n) (.slice sU (nw n) cU) 25)
          have HSU := Lib.hid (SU.below (one_below w3 (.cells #[.int .i64 n, .slice sU (nw n) cU] 25)))
          have HV := Lib.hid (HV.out.next b4)
          have HK := Lib.hid (HK.out.next b4)
          have HD := Lib.hid (HD.out.below b4)
          have HS := Lib.hid (HS.out.below b4)
          have HT := Lib.hid (HT.out.next b4)
          have HTr := Lib.hid (HTr.out.below b4)
          have hw3 := b3.size
          have hw3T : w1.heap.size < w3.heap.size := Nat.lt_of_lt_of_le t4 b3.size
          have hw3V : wO.heap.size < w3.heap.size := Nat.lt_of_lt_of_le hvs (Nat.le_trans HX2 b3.size)
          clear b3 b4 SU t0 t1 t2 t3 t4 WI
          obtain ⟨t0, t1, t2, t3, t4⟩ := HT.out
          obtain ⟨r0, r1, r2, r3, r4⟩ := HTU.out
          by_cases hio : i < lo
          · obtain ⟨bo, oo, rfl, hbo, hco⟩ := HTr.out.at_ (by omega)
            have hoi := hco i hio
            clear hco
            cases hBi : Bo i with
            | true =>
              rw [hBi] at hoi
              have WO := without_any n s c p u _ HS.out
              go_wp2_with fail
              with_reducible refine WO.mono ?_
              rintro e w4 ⟨⟨sW, cW, rfl, SW⟩, b4⟩
              have HV := Lib.hid ((HV.out.next b4).kept (heap_store w4 (.int .i64 n) (.slice sW (nw n) cW) (show wO.heap.size ≠ w3.heap.size by omega)))
              have hq0 := (HTU.out.next b4).c0
              have HK := Lib.hid (Kept.stored (HK.out.next b4) hq0 (.int .i64 n) (.slice sW (nw n) cW) (by omega) (by omega) (by omega))
              have HD := Lib.hid (BoolsAt.stored (u := .int .i64 n) (v := .slice sW (nw n) cW) (HD.out.below b4) hq0)
              have HS := Lib.hid (SetAt.stored (u := .int .i64 n) (v := .slice sW (nw n) cW) (HS.out.below b4) hq0)
              have HT := Lib.hid ((HT.out.next b4).kept (heap_store w4 (.int .i64 n) (.slice sW (nw n) cW) (show w1.heap.size ≠ w3.heap.size by omega)))
              have HSU := Lib.hid (SetAt.stored (u := .int .i64 n) (v := .slice sW (nw n) cW) SW hq0)
              have HTU' := HTU.out.next b4
              have HTU := Lib.hid (SBox.store (u' := .int .i64 n) (v' := .slice sW (nw n) cW) HTU')
              clear t0 t1 t2 t3 t4 r0 r1 r2 r3 r4 b4 SW WO hq0
              obtain ⟨r0, r1, r2, r3, r4⟩ := HTU'
              obtain ⟨t0, t1, t2, t3, t4⟩ := HT.out
              clear HTr
              have RW := rwith_any y d n p hle u false _ HD.out
              go_wp2_with fail
              with_reducible refine RW.mono ?_
              rintro e w5 ⟨⟨y5, d5, rfl, D5⟩, b5⟩
              have HD5 := Lib.hid D5
              have HV := Lib.hid (HV.out.next b5)
              have HK := Lib.hid (HK.out.next b5)
              have HS := Lib.hid (HS.out.below b5)
              have HT := Lib.hid (HT.out.next b5)
              have HTU := Lib.hid (HTU.out.next b5)
              have HSU := Lib.hid (HSU.out.below b5)
              clear b5 D5 RW t0 t1 t2 t3 t4 r0 r1 r2 r3 r4
              obtain ⟨t0, t1, t2, t3, t4⟩ := HT.out
              obtain ⟨r0, r1, r2, r3, r4⟩ := HTU.out
              have SA := same_any n (put n p u false) sW y5 cW d5 _ HSU.out HD5.out HK.out.ok
              go_wp2_with fail
              with_reducible refine SA.mono ?_
              rintro e w6 ⟨rfl, b6⟩
              have HD5 := Lib.hid (HD5.out.below b6)
              have HV := Lib.hid (HV.out.next b6)
              have HK := Lib.hid (HK.out.next b6)
              have HS := Lib.hid (HS.out.below b6)
              have HT := Lib.hid (HT.out.next b6)
              have HTU := Lib.hid (HTU.out.next b6)
              have HSU := Lib.hid (HSU.out.below b6)
              clear b6 SA t0 t1 t2 t3 t4 r0 r1 r2 r3 r4
              obtain ⟨t0, t1, t2, t3, t4⟩ := HT.out
              obtain ⟨r0, r1, r2, r3, r4⟩ := HTU.out
              have LI := list_any n s c p _ HS.out HK.out.ok
              go_wp2_with fail
              with_reducible refine LI.mono ?_
              rintro e w7 ⟨⟨yl7, cl7, rfl, NL⟩, b7⟩
              have HD5 := Lib.hid (HD5.out.below b7)
              have HV := Lib.hid (HV.out.next b7)
              have HK := Lib.hid (HK.out.next b7)
              have HT := Lib.hid (HT.out.next b7)
              have HTU := Lib.hid (HTU.out.next b7)
              have HSU := Lib.hid (HSU.out.below b7)
              clear b7 NL LI HS t0 t1 t2 t3 t4 r0 r1 r2 r3 r4
              obtain ⟨t0, t1, t2, t3, t4⟩ := HT.out
              obtain ⟨r0, r1, r2, r3, r4⟩ := HTU.out
              have HA := has_any n sW cW (put n p u false) u _ HSU.out
              go_wp2_with fail
              with_reducible refine HA.mono ?_
              rintro e w8 ⟨rfl, b8⟩
              have HD5 := Lib.hid (HD5.out.below b8)
              have HV := Lib.hid (HV.out.next b8)
              have HK := Lib.hid (HK.out.next b8)
              have HT := Lib.hid (HT.out.next b8)
              have HTU := Lib.hid (HTU.out.next b8)
              have HSU := Lib.hid (HSU.out.below b8)
              clear b8 HA t0 t1 t2 t3 t4 r0 r1 r2 r3 r4
              obtain ⟨t0, t1, t2, t3, t4⟩ := HT.out
              obtain ⟨r0, r1, r2, r3, r4⟩ := HTU.out
              have RH := rhas_any y5 d5 n (put n p u false) (put_out hout u false) u _ HD5.out
              go_wp2_with fail
              with_reducible refine RH.mono ?_
              rintro e w9 ⟨rfl, rfl⟩
              have NE := next_any n sW cW (put n p u false) u _ HSU.out HK.out.ok
              clear RH
              go_wp2_with fail
              with_reducible refine NE.mono ?_
              rintro e w10 ⟨rfl, b10⟩
              have HD5 := Lib.hid (HD5.out.below b10)
              have HV := Lib.hid (HV.out.next b10)
              have HK := Lib.hid (HK.out.next b10)
              have HT := Lib.hid (HT.out.next b10)
              have HTU := Lib.hid (HTU.out.next b10)
              have HSU := Lib.hid (HSU.out.below b10)
              clear b10 NE t0 t1 t2 t3 t4 r0 r1 r2 r3 r4
              obtain ⟨t0, t1, t2, t3, t4⟩ := HT.out
              obtain ⟨r0, r1, r2, r3, r4⟩ := HTU.out
              have RN := rnext_any y5 d5 n (put n p u false) hle u _ HD5.out
              go_wp2_with fail
              with_reducible refine RN.mono ?_
              rintro e w11 ⟨rfl, rfl⟩
              clear RN
              go_wp2
              go_roundw
              case rel =>
                have hKs := HK.out
                exact ⟨k + 1, put n p u false, y5, d5, by omega, by go_num, rfl, ⟨⟨⟨sW, cW, HT.out.store, SetAt.stored HSU.out t0⟩, BoolsAt.stored HD5.out t0⟩, hKs.ok.below_store (by omega), store_below hKs.B (by omega) _ _⟩, HV.out.kept (heap_store _ _ _ (by omega))⟩
              case measure => simp [intOf]; omega
            | false =>
              rw [hBi] at hoi
              clear HTr
              have RW := rwith_any y d n p hle u true _ HD.out
              go_wp2_with fail
              with_reducible refine RW.mono ?_
              rintro e w5 ⟨⟨y5, d5, rfl, D5⟩, b5⟩
              have HD5 := Lib.hid D5
              have HV := Lib.hid (HV.out.next b5)
              have HK := Lib.hid (HK.out.next b5)
              have HS := Lib.hid (HS.out.below b5)
              have HT := Lib.hid (HT.out.next b5)
              have HTU := Lib.hid (HTU.out.next b5)
              have HSU := Lib.hid (HSU.out.below b5)
              clear b5 D5 RW t0 t1 t2 t3 t4 r0 r1 r2 r3 r4
              obtain ⟨t0, t1, t2, t3, t4⟩ := HT.out
              obtain ⟨r0, r1, r2, r3, r4⟩ := HTU.out
              have SA := same_any n (put n p u true) sU y5 cU d5 _ HSU.out HD5.out HK.out.ok
              go_wp2_with fail
              with_reducible refine SA.mono ?_
              rintro e w6 ⟨rfl, b6⟩
              have HD5 := Lib.hid (HD5.out.below b6)
              have HV := Lib.hid (HV.out.next b6)
              have HK := Lib.hid (HK.out.next b6)
              have HS := Lib.hid (HS.out.below b6)
              have HT := Lib.hid (HT.out.next b6)
              have HTU := Lib.hid (HTU.out.next b6)
              have HSU := Lib.hid (HSU.out.below b6)
              clear b6 SA t0 t1 t2 t3 t4 r0 r1 r2 r3 r4
              obtain ⟨t0, t1, t2, t3, t4⟩ := HT.out
              obtain ⟨r0, r1, r2, r3, r4⟩ := HTU.out
              have LI := list_any n s c p _ HS.out HK.out.ok
              go_wp2_with fail
              with_reducible refine LI.mono ?_
              rintro e w7 ⟨⟨yl7, cl7, rfl, NL⟩, b7⟩
              have HD5 := Lib.hid (HD5.out.below b7)
              have HV := Lib.hid (HV.out.next b7)
              have HK := Lib.hid (HK.out.next b7)
              have HT := Lib.hid (HT.out.next b7)
              have HTU := Lib.hid (HTU.out.next b7)
              have HSU := Lib.hid (HSU.out.below b7)
              clear b7 NL LI HS t0 t1 t2 t3 t4 r0 r1 r2 r3 r4
              obtain ⟨t0, t1, t2, t3, t4⟩ := HT.out
              obtain ⟨r0, r1, r2, r3, r4⟩ := HTU.out
              have HA := has_any n sU cU (put n p u true) u _ HSU.out
              go_wp2_with fail
              with_reducible refine HA.mono ?_
              rintro e w8 ⟨rfl, b8⟩
              have HD5 := Lib.hid (HD5.out.below b8)
              have HV := Lib.hid (HV.out.next b8)
              have HK := Lib.hid (HK.out.next b8)
              have HT := Lib.hid (HT.out.next b8)
              have HTU := Lib.hid (HTU.out.next b8)
              have HSU := Lib.hid (HSU.out.below b8)
              clear b8 HA t0 t1 t2 t3 t4 r0 r1 r2 r3 r4
              obtain ⟨t0, t1, t2, t3, t4⟩ := HT.out
              obtain ⟨r0, r1, r2, r3, r4⟩ := HTU.out
              have RH := rhas_any y5 d5 n (put n p u true) (put_out hout u true) u _ HD5.out
              go_wp2_with fail
              with_reducible refine RH.mono ?_
              rintro e w9 ⟨rfl, rfl⟩
              have NE := next_any n sU cU (put n p u true) u _ HSU.out HK.out.ok
              clear RH
              go_wp2_with fail
              with_reducible refine NE.mono ?_
              rintro e w10 ⟨rfl, b10⟩
              have HD5 := Lib.hid (HD5.out.below b10)
              have HV := Lib.hid (HV.out.next b10)
              have HK := Lib.hid (HK.out.next b10)
              have HT := Lib.hid (HT.out.next b10)
              have HTU := Lib.hid (HTU.out.next b10)
              have HSU := Lib.hid (HSU.out.below b10)
              clear b10 NE t0 t1 t2 t3 t4 r0 r1 r2 r3 r4
              obtain ⟨t0, t1, t2, t3, t4⟩ := HT.out
              obtain ⟨r0, r1, r2, r3, r4⟩ := HTU.out
              have RN := rnext_any y5 d5 n (put n p u true) hle u _ HD5.out
              go_wp2_with fail
              with_reducible refine RN.mono ?_
              rintro e w11 ⟨rfl, rfl⟩
              clear RN
              go_wp2
              go_roundw
              case rel =>
                have hKs := HK.out
                exact ⟨k + 1, put n p u true, y5, d5, by omega, by go_num, rfl, ⟨⟨⟨sU, cU, HT.out.store, SetAt.stored HSU.out t0⟩, BoolsAt.stored HD5.out t0⟩, hKs.ok.below_store (by omega), store_below hKs.B (by omega) _ _⟩, HV.out.kept (heap_store _ _ _ (by omega))⟩
              case measure => simp [intOf]; omega
          · clear HTr
            have RW := rwith_any y d n p hle u true _ HD.out
            go_wp2_with fail
            with_reducible refine RW.mono ?_
            rintro e w5 ⟨⟨y5, d5, rfl, D5⟩, b5⟩
            have HD5 := Lib.hid D5
            have HV := Lib.hid (HV.out.next b5)
            have HK := Lib.hid (HK.out.next b5)
            have HS := Lib.hid (HS.out.below b5)
            have HT := Lib.hid (HT.out.next b5)
            have HTU := Lib.hid (HTU.out.next b5)
            have HSU := Lib.hid (HSU.out.below b5)
            clear b5 D5 RW t0 t1 t2 t3 t4 r0 r1 r2 r3 r4
            obtain ⟨t0, t1, t2, t3, t4⟩ := HT.out
            obtain ⟨r0, r1, r2, r3, r4⟩ := HTU.out
            have SA := same_any n (put n p u true) sU y5 cU d5 _ HSU.out HD5.out HK.out.ok
            go_wp2_with fail
            with_reducible refine SA.mono ?_
            rintro e w6 ⟨rfl, b6⟩
            have HD5 := Lib.hid (HD5.out.below b6)
            have HV := Lib.hid (HV.out.next b6)
            have HK := Lib.hid (HK.out.next b6)
            have HS := Lib.hid (HS.out.below b6)
            have HT := Lib.hid (HT.out.next b6)
            have HTU := Lib.hid (HTU.out.next b6)
            have HSU := Lib.hid (HSU.out.below b6)
            clear b6 SA t0 t1 t2 t3 t4 r0 r1 r2 r3 r4
            obtain ⟨t0, t1, t2, t3, t4⟩ := HT.out
            obtain ⟨r0, r1, r2, r3, r4⟩ := HTU.out
            have LI := list_any n s c p _ HS.out HK.out.ok
            go_wp2_with fail
            with_reducible refine LI.mono ?_
            rintro e w7 ⟨⟨yl7, cl7, rfl, NL⟩, b7⟩
            have HD5 := Lib.hid (HD5.out.below b7)
            have HV := Lib.hid (HV.out.next b7)
            have HK := Lib.hid (HK.out.next b7)
            have HT := Lib.hid (HT.out.next b7)
            have HTU := Lib.hid (HTU.out.next b7)
            have HSU := Lib.hid (HSU.out.below b7)
            clear b7 NL LI HS t0 t1 t2 t3 t4 r0 r1 r2 r3 r4
            obtain ⟨t0, t1, t2, t3, t4⟩ := HT.out
            obtain ⟨r0, r1, r2, r3, r4⟩ := HTU.out
            have HA := has_any n sU cU (put n p u true) u _ HSU.out
            go_wp2_with fail
            with_reducible refine HA.mono ?_
            rintro e w8 ⟨rfl, b8⟩
            have HD5 := Lib.hid (HD5.out.below b8)
            have HV := Lib.hid (HV.out.next b8)
            have HK := Lib.hid (HK.out.next b8)
            have HT := Lib.hid (HT.out.next b8)
            have HTU := Lib.hid (HTU.out.next b8)
            have HSU := Lib.hid (HSU.out.below b8)
            clear b8 HA t0 t1 t2 t3 t4 r0 r1 r2 r3 r4
            obtain ⟨t0, t1, t2, t3, t4⟩ := HT.out
            obtain ⟨r0, r1, r2, r3, r4⟩ := HTU.out
            have RH := rhas_any y5 d5 n (put n p u true) (put_out hout u true) u _ HD5.out
            go_wp2_with fail
            with_reducible refine RH.mono ?_
            rintro e w9 ⟨rfl, rfl⟩
            have NE := next_any n sU cU (put n p u true) u _ HSU.out HK.out.ok
            clear RH
            go_wp2_with fail
            with_reducible refine NE.mono ?_
            rintro e w10 ⟨rfl, b10⟩
            have HD5 := Lib.hid (HD5.out.below b10)
            have HV := Lib.hid (HV.out.next b10)
            have HK := Lib.hid (HK.out.next b10)
            have HT := Lib.hid (HT.out.next b10)
            have HTU := Lib.hid (HTU.out.next b10)
            have HSU := Lib.hid (HSU.out.below b10)
            clear b10 NE t0 t1 t2 t3 t4 r0 r1 r2 r3 r4
            obtain ⟨t0, t1, t2, t3, t4⟩ := HT.out
            obtain ⟨r0, r1, r2, r3, r4⟩ := HTU.out
            have RN := rnext_any y5 d5 n (put n p u true) hle u _ HD5.out
            go_wp2_with fail
            with_reducible refine RN.mono ?_
            rintro e w11 ⟨rfl, rfl⟩
            clear RN
            go_wp2
            go_roundw
            case rel =>
              have hKs := HK.out
              exact ⟨k + 1, put n p u true, y5, d5, by omega, by go_num, rfl, ⟨⟨⟨sU, cU, HT.out.store, SetAt.stored HSU.out t0⟩, BoolsAt.stored HD5.out t0⟩, hKs.ok.below_store (by omega), store_below hKs.B (by omega) _ _⟩, HV.out.kept (heap_store _ _ _ (by omega))⟩
            case measure => simp [intOf]; omega
        · obtain rfl : k = 2 := by omega
          have HK := Lib.hid hK
          clear hK hV
          go_wp2
          go_roundw
          case rel => exact ⟨i + 1, p, y, d, by omega, by go_num, rfl, HK.out⟩
          case measure => simp [intOf]; omega
    · obtain rfl : i = M := by omega
      have WA := wakes_any wr hK.ok
      have HB := Lib.hid hK.B
      clear hK
      go_wp2_with fail
      with_reducible refine WA.mono ?_
      rintro e w2 ⟨rfl, b2⟩
      have B := on HB.out b2
      clear b2 HB
      go_wp2
      go_ret
      exact ⟨rfl, B⟩

/-! ### the row -/
open Go.ChangeShapes Go.WideShapes Go.ChangeAt
theorem lifted (os : Os) (started : os.Started) (H : Type) (enc : TypeId × Value → H) :
    ReturnsInHanded {} Tryd.checked os 4 .any (fun w args => (Rows.bitsetHoldsSpec.pre enc Tryd.prog Tryd.f4 [] false w args ∧ laidMetH Tryd.prog laidL w) ∧ sizedMet enc Tryd.prog Tryd.f4 (OpenSpec.ofChange Rows.bitsetHoldsSpec) false w args)
      (Rows.bitsetHoldsSpec.post enc Tryd.prog Tryd.f4 false true false false) := by
  refine returnsInHanded_of_change_and (C := Tryd.checked) (X := fun w _ => laidMetH Tryd.prog laidL w) (fun _ _ _ hh h => h.of_heap hh) own started (by kernel_rfl) Tryd.func4
    (ChangeSpec.witness_shaped (enc := enc) (C := Tryd.checked) (os := os) (X := fun w _ => laidMetH Tryd.prog laidL w) false (World.doorLaid Tryd.prog 400 os) #[.int .i64 0, .slice none 0 0, .slice none 0 0] 8 rfl (World.shaped_of_RefB (by kernel_rfl) (by kernel_rfl)) (by kernel_rfl) (by kernel_rfl) (by kernel_rfl) (door_met os _)) ?_
  intro W base args ds gs before hval0 hW _ hsz0 hL _
  have hval : ∀ (j : Nat) t v, Tryd.f4.params[j]? = some t → args[j]? = some v → Value.okWide Tryd.prog W .any base t v := hval0
  have hW' := hW
  obtain ⟨p, q, hA0, hV, rfl, hfz, hnd⟩ := hW
  have hA : DataW.TrodAll enc Tryd.prog W 0 (fun _ => true) true Tryd.f4.params.toList args.toList ds p := hA0
  rw [Tryd.params4] at hA hval
  obtain ⟨v0, vs0, d0, ds0, p0, q0, hargs, rfl, rfl, h0, r0⟩ := trodAll_cons hA
  obtain ⟨v1, vs1, d1, ds1, p1, q1, rfl, rfl, rfl, h1, r1⟩ := trodAll_cons r0
  obtain ⟨v2, vs2, d2, ds2, p2, q2, rfl, rfl, rfl, h2, r2⟩ := trodAll_cons r1
  obtain ⟨rfl, rfl, rfl⟩ := trodAll_nil r2
  obtain rfl : args = #[v0, v1, v2] := by cases args; simp_all
  obtain ⟨rfl, rfl⟩ := trodVars_none hV
  have k0 := h0
  have lt0 : ∀ x ∈ p0, x.block < W.heap.size := by obtain ⟨m, hm⟩ := k0; exact DataW.trod_lt m _ _ _ hm
  obtain ⟨a0, w0, rfl⟩ := open_num (hval 0 3 v0 rfl rfl) h0
  have k1 := h1
  have lt1 : ∀ x ∈ p1, x.block < W.heap.size := by obtain ⟨m, hm⟩ := k1; exact DataW.trod_lt m _ _ _ hm
  obtain ⟨x1, l1, c1, zs1, w1, rfl⟩ := open_row (hval 1 22 v1 rfl rfl) h1
  have k2 := h2
  have lt2 : ∀ x ∈ p2, x.block < W.heap.size := by obtain ⟨m, hm⟩ := k2; exact DataW.trod_lt m _ _ _ hm
  obtain ⟨x2, l2, c2, B2, w2, rfl⟩ := open_truths (hval 2 33 v2 rfl rfl) h2
  clear hA0 hval0
  refine (walk a0 x1 l1 c1 zs1 x2 l2 c2 B2 W w0 w1 w2 (libOk_of_laid hL)).mono fun e W' ⟨he, bel⟩ => ?_
  subst he
  exact ⟨_, rfl, _, _, _, [], _, [], hW', trodAll_mk1 (shut_bool Tryd.underlying4 _), (trodAll_cons_mk (Below.trod laidOut (by kernel_rfl) (of_decide_eq_true (by kernel_rfl)) k0 bel lt0) (trodAll_cons_mk (Below.trod laidOut (by kernel_rfl) (of_decide_eq_true (by kernel_rfl)) k1 bel lt1) (trodAll_cons_mk (Below.trod laidOut (by kernel_rfl) (of_decide_eq_true (by kernel_rfl)) k2 bel lt2) trodAll_mk0))), rfl, bel.frame _, fun h => by cases h⟩

theorem over : Rows.bitsetHoldsRow.holds Tryd.pinned (OpenSpec.ofChange Rows.bitsetHoldsSpec) :=
  OpenClaim.holds_of_wide 4 Tryd.f4 rfl rfl rfl rfl rfl rfl rfl ⟨rfl, rfl, rfl, rfl, rfl⟩ rfl rfl rfl rfl rfl (by kernel_rfl) Tryd.func4 (by kernel_rfl)
    (of_decide_eq_true (by kernel_rfl)) (by unfold Func.isWrapper; first | (rw [if_pos (by decide +kernel)]; kernel_rfl) | (rw [if_neg (by decide +kernel)]; exact ⟨rfl, rfl⟩))
    (fun os started H enc _ => lifted os started H enc)

theorem card : Rows.BitsetHoldsCardSaid :=
  Claim7.holds_tied_plain_at .later [] [.data] true _ false
    over (fun _ h => by cases h) (by kernel_rfl) (fun _ h => by cases h) bitsetHolds_row_tie rfl ⟨rfl, rfl⟩ (by kernel_rfl) rfl
    (fun f fn hf hfn => by
      obtain rfl : f = 4 := Option.some.inj ((show Tryd.prog.funcNamed Rows.bitsetHoldsRow.func = some 4 by kernel_rfl).symm.trans hf) |>.symm
      obtain rfl : fn = Tryd.f4 := (Option.some.inj (Tryd.func4.symm.trans hfn)).symm
      exact ⟨by kernel_rfl, fun j t ht => by
        rw [Tryd.params4] at ht
        have hm : t ∈ [3, 22, 33] := by simpa using Array.mem_of_getElem? ht
        have hall : ([3, 22, 33].all fun u => !Tryd.prog.wantsStandIn u) = true := by kernel_rfl
        exact (show Tryd.prog.wantsStandIn t = false by simpa using List.all_eq_true.1 hall t hm)⟩)
    (by kernel_rfl)

end Go.Proofs.YtooehfjappckmaaDoor.bitsetHolds
namespace Go.Proofs.YtooehfjappckmaaDoor
theorem bitsetHolds_holds : Rows.BitsetHoldsCardSaid := bitsetHolds.card
#print axioms bitsetHolds_holds
end Go.Proofs.YtooehfjappckmaaDoor
