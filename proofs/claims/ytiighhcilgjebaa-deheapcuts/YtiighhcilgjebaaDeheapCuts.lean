/-
  DeheapCuts (layer 7, P7.2): what is dropped and what stays are all that there was, parted by the bound, and what is evicted comes behind all that stays: for every slice of entries and every two numbers the law returns true, and the slice reads as it did. No condition.
-/
import Derived.Test.YtiighhcilgjebaaDeList
namespace Go.Proofs.Ytiighhcilgjebaa.deheapCuts
open Go.Proofs.Ytiighhcilgjebaa
set_option maxRecDepth 100000
open Go.RowKit Go.Sort

theorem own_at {w : World} {B n c j : Nat} {t : TypeId} {p : Option Addr} {l : List En} (h : w.ownsRow B t 4 (.slice p n c) n (flatE l)) (hn : l.length = n) (hj : j < n) : ∃ g, p = some ⟨g, 0, none⟩ ∧ g < w.heap.size ∧ w.cell? ⟨g, j * 4, none⟩ = some (.int .i64 (nth l j).b) ∧ w.cell? ⟨g, j * 4 + 1, none⟩ = some (.int .i64 (nth l j).d) ∧ w.cell? ⟨g, j * 4 + 2, none⟩ = some (.int .i64 (nth l j).s) ∧ w.cell? ⟨g, j * 4 + 3, none⟩ = some (.int .i64 (nth l j).i) := by
  obtain ⟨g, c', e, _, hlt⟩ := h.form (by omega)
  simp only [Value.slice.injEq, true_and] at e
  obtain ⟨rfl, rfl⟩ := e
  exact ⟨g, rfl, hlt, (own_list h).nth (by omega)⟩
theorem bulk_cut (l : List En) (v : Value) (w : World) (hl : l.length ≤ 40) (h : Lists w v l) : Calls Try.prog 9 #[.int .i64 0, .int .i64 40, v] w (BulkOk false 40 l w) :=
  bulk_ok false 40 l v w (by decide) (by decide) (by omega) (by omega) h
set_option maxHeartbeats 20000000 in
theorem walk (a : Option Addr) (len cap : Nat) (z : Nat → En) (b n : Int) (w : World) (h : IsEnts w a len cap z) :
    Calls Try.prog 6 #[.slice a len cap, .int .i64 b, .int .i64 n] w fun e w' => e = .returned (.bool true) ∧ Below w.heap.size w w' := by
  obtain ⟨hE, hlc, hcm⟩ := h
  obtain ⟨i0, hi, hz0, hz1, hz2⟩ := info_parts' infoE
  unfold maxLen at hcm
  obtain ⟨L, eL⟩ : ∃ L, min len 40 = L := ⟨_, rfl⟩
  obtain ⟨hL, hL1, hL2⟩ : (min (len : Int) 40).toNat = L ∧ L ≤ len ∧ L ≤ 40 := ⟨by omega, by omega, by omega⟩
  clear eL
  have hE := Lib.hid (hE.less hL1)
  go_enter Try.func6, Try.ntmps6
  go_wp2
  go_loopw [7, 28] (fun d i wr => ∃ k : Nat, k ≤ L ∧ i = .int .i64 (k : Int) ∧ wr.ownsRow w.heap.size 32 4 d k (flatE (ls z k)) ∧ Below w.heap.size w wr) (fun _ i _ => L - (intOf i).toNat)
  case atStart => exact ⟨0, by omega, rfl, World.ownsRow_nil _ _ _ _, Below.refl _ _⟩
  case round =>
    obtain ⟨k, hk, rfl, hown, hbe⟩ := hrel
    by_cases hlt : k < L
    · obtain ⟨ab, off, rfl, hb, hc⟩ := (hE.out.below hbe).at_ (by omega)
      obtain ⟨c0, c1, c2, c3⟩ := hc k hlt
      obtain ⟨x, hx⟩ : ∃ x, z k = x := ⟨_, rfl⟩
      rw [hx] at c0 c1 c2 c3
      have HX := Lib.hid hx
      have c01 : (0 : Int) ≤ (k : Int) := by omega
      have c02 : (k : Int) < (L : Int) := by omega
      have HO := Lib.hid hown
      have HBE := Lib.hid hbe
      have OX := of_any x
      unfold entV at OX
      clear hc hx hown hbe
      go_wp2_with fail
      with_reducible refine (OX _).mono ?_
      rintro e w1 ⟨rfl, m1⟩
      have B1 : Below wr.heap.size wr (wr.alloc (.cells #[.int .i64 x.b, .int .i64 x.d, .int .i64 x.s, .int .i64 x.i] 28)) := (Below.refl _ _).alloc (Nat.le_refl _) _
      have B2 := B1.trans (m1.below.mono B1.size)
      have B3 := HBE.out.trans (B2.mono HBE.out.size)
      have O1 := Lib.hid (own_kept HO.out B2)
      have HB3 := Lib.hid B3
      have hsz := B3.size
      clear B1 B2 B3 m1 HO HBE c0 c1 c2 c3 OX hb
      go_wp2_with (at_builtin; refine wpList_append_lies _ rfl _ _ 25 rfl w.heap.size 32 i0 (.agg #[.int .i64 0, .int .i64 0, .int .i64 0, .int .i64 0]) 4 32 Try.underlying25 hi hz0 hz1 hz2 rfl (by decide) _ _ _ rfl (O1.out.alloc _) ⟨w1.heap.size, 0, none⟩ 1 1 (encE x) rfl rfl ?c1 ?c2 ?c3 ?c4 ?c5 ?c6 (w1.heap.size + 1) ?c7 ?_)
      case c1 => exact World.news_of_block (cs := #[.int .i64 x.b, .int .i64 x.d, .int .i64 x.s, .int .i64 x.i]) (heap_alloc_new w1 _)
      case c2 => intro u hu; simp [encE] at hu; rcases hu with rfl | rfl | rfl | rfl <;> rfl
      case c3 => omega
      case c4 => unfold maxLen; omega
      case c5 => omega
      case c6 => simp; omega
      case c7 => simp
      · intro g1 cap1 w2 hown1 hgrow _ hlt1
        have B1 : Below w.heap.size w w2 := (HB3.out.alloc hsz _).grown hgrow (by simp; omega) (fun q hq => (O1.out.lt q hq).1)
        have O2 : Hid (w2.ownsRow w.heap.size 32 4 (.slice (some ⟨g1, 0, none⟩) (k + 1) cap1) (k + 1) (flatE (ls z (k + 1)))) := by
          show World.ownsRow _ _ _ _ _ _ _
          rw [ls_succ, HX.out, flatE_append, flatE_cons, flatE_nil, List.append_nil]
          exact hown1
        have HB1 := Lib.hid B1
        clear B1 hown1 hgrow hlt1 O1 HB3 hsz
        go_wp2
        go_roundw
        case rel => exact ⟨k + 1, by omega, by go_num, O2.out, HB1.out⟩
        case measure => simp [intOf]; omega
    · obtain rfl : k = L := by omega
      obtain ⟨p7, c7, rfl⟩ := own_slice hown
      have C := bulk_cut (ls z k) (.slice p7 k c7) wr (by rw [ls_length]; exact hL2) (lists_own (B := w.heap.size) (t := 32) (by rw [ls_length]; exact hown))
      have HBE := Lib.hid hbe
      have HSL := Lib.hid (show (srt (ls z k)).length = k by rw [srt_length, ls_length])
      have HSS := Lib.hid (srt_srt (ls z k))
      obtain ⟨m, hm⟩ : ∃ m, srt (ls z k) = m := ⟨_, rfl⟩
      rw [hm] at HSL HSS
      have HM := Lib.hid hm
      clear hown hbe hE hm
      go_wp2_with fail
      with_reducible refine C.mono ?_
      rintro e w1 ⟨db, rfl, hd, be1⟩
      rw [HM.out] at hd
      have HB1 := Lib.hid (HBE.out.trans (be1.mono HBE.out.size))
      obtain ⟨F, hF⟩ : ∃ F : Nat → Prop, F = fun b => wr.heap.size ≤ b ∧ b < w1.heap.size := ⟨_, rfl⟩
      have HF : Hid (∀ b, F b → w.heap.size ≤ b) := fun b hb => by rw [hF] at hb; exact Nat.le_trans HBE.out.size hb.1
      rw [← hF] at hd
      have HD1 := Lib.hid hd
      clear hd be1 hF C HBE HM
      go_wp2_with fail
      with_reducible refine (wakes_any _).mono ?_
      rintro e w2 ⟨rfl, be2⟩
      have D := drop_any b w2 (by rw [HSL.out]; omega) (HD1.out.next be2)
      have HB2 := Lib.hid (HB1.out.trans (be2.mono HB1.out.size))
      clear be2 HD1 HB1
      have HCL := Lib.hid (cutN_le m b)
      have HHI : Hid (∀ j, j < cutN m b → b ≤ (nth (evO m (cutN m b)).reverse j).b) := fun j h => cut_hi h
      have HLO : Hid (∀ j, j < (evL m (cutN m b)).length → (nth (evL m (cutN m b)) j).b < b) := fun j h => cut_lo HSS.out h
      have HSE := Lib.hid (HSS.out.left (cutN m b))
      have HRL := Lib.hid (show (evO m (cutN m b)).reverse.length = cutN m b by rw [List.length_reverse, evO_le (cutN_le m b)])
      have HQL := Lib.hid (evL_length m (cutN m b))
      unfold DropOk at D
      generalize cutN m b = c at *
      generalize (evO m c).reverse = out at *
      generalize evL m c = q at *
      go_wp2_with fail
      with_reducible refine D.mono ?_
      rintro e w3 ⟨v3, rfl, ho3, hd3, hk3⟩
      obtain ⟨p3, c3, rfl⟩ := own_slice ho3
      have hc40 : c ≤ 40 := by have := HCL.out; have := HSL.out; omega
      have HB3 := Lib.hid (HB2.out.trans (hk3.below HB2.out.size HF.out))
      have HO3 := Lib.hid ho3
      have HD3 := Lib.hid hd3
      clear ho3 hd3 hk3 D HB2
      go_wp2
      go_loopw [58] (fun i wx => ∃ j : Nat, j ≤ c ∧ i = .int .i64 (j : Int) ∧ Below w3.heap.size w3 wx) (fun i _ => c - (intOf i).toNat)
      case atStart => exact ⟨0, by omega, rfl, Below.refl _ _⟩
      case round =>
        obtain ⟨j, hj, rfl, hbx⟩ := hrel
        have HBX := Lib.hid hbx
        clear hbx
        obtain ⟨wy, hwy⟩ : ∃ q, q = wr := ⟨wr, rfl⟩
        subst hwy
        by_cases hlt2 : j < c
        · obtain ⟨g, rfl, hg, c0, c1, c2, c3⟩ := own_at (own_kept HO3.out HBX.out) HRL.out hlt2
          have hxb := HHI.out j hlt2
          generalize nth out j = x at *
          have nb : ¬ x.b < b := by omega
          have c01 : (0 : Int) ≤ (j : Int) := by omega
          have c02 : (j : Int) < (c : Int) := by omega
          have HB4 := Lib.hid (HBX.out.alloc HBX.out.size (.cells #[.int .i64 x.b, .int .i64 x.d, .int .i64 x.s, .int .i64 x.i] 32))
          clear HBX
          go_wp2
          go_roundw
          case rel => exact ⟨j + 1, by omega, by go_num, HB4.out⟩
          case measure => simp [intOf]; omega
        · obtain rfl : j = c := by omega
          have nlt : ¬ ((j : Int) < (j : Int)) := by omega
          have S := sortedD wy (m := q) (by rw [HQL.out, HSL.out]; omega) (HD3.out.next HBX.out)
          unfold SortedOk at S
          obtain ⟨Q, hQ⟩ : ∃ Q, q.length = Q := ⟨_, rfl⟩
          rw [hQ] at S
          have HQ := Lib.hid hQ
          have hcQ : (j : Int) + (Q : Int) = (k : Int) := by have := HQL.out; have := HSL.out; have := HCL.out; omega
          have HCQ := Lib.hid hcQ
          have hQ40 : Q ≤ 40 := by omega
          have HBX2 := Lib.hid HBX.out
          clear HBX hQ hcQ
          go_wp2_with fail
          with_reducible refine S.mono ?_
          rintro e w4 ⟨v4, rfl, ho4, be4⟩
          have B34 := HBX2.out.trans (be4.mono HBX2.out.size)
          have HD4 := Lib.hid (HD3.out.next B34)
          have HB4 := Lib.hid (HB3.out.trans (B34.mono HB3.out.size))
          obtain ⟨p4, c4, rfl⟩ := own_slice ho4
          have HO4 := Lib.hid ho4
          clear be4 B34 ho4 S HD3 HBX2 HB3 HO3 nlt
          go_wp2
          go_loopw [71] (fun i wx => ∃ r : Nat, r ≤ Q ∧ i = .int .i64 (r : Int) ∧ Below w4.heap.size w4 wx) (fun i _ => Q - (intOf i).toNat)
          case atStart => exact ⟨0, by omega, rfl, Below.refl _ _⟩
          case round =>
            obtain ⟨r, hr, rfl, hbx⟩ := hrel
            have HBX := Lib.hid hbx
            clear hbx
            obtain ⟨wz, hwz⟩ : ∃ q, q = wr := ⟨wr, rfl⟩
            subst hwz
            by_cases hlt3 : r < Q
            · obtain ⟨g, rfl, hg, c0, c1, c2, c3⟩ := own_at (own_kept HO4.out HBX.out) HQ.out hlt3
              have hxb := HLO.out r (by rw [HQ.out]; exact hlt3)
              generalize nth q r = x at *
              have nb : ¬ b ≤ x.b := by omega
              have c01 : (0 : Int) ≤ (r : Int) := by omega
              have c02 : (r : Int) < (Q : Int) := by omega
              have HB5 := Lib.hid (HBX.out.alloc HBX.out.size (.cells #[.int .i64 x.b, .int .i64 x.d, .int .i64 x.s, .int .i64 x.i] 32))
              clear HBX
              go_wp2
              go_roundw
              case rel => exact ⟨r + 1, by omega, by go_num, HB5.out⟩
              case measure => simp [intOf]; omega
            · obtain rfl : r = Q := by omega
              have nlt : ¬ ((r : Int) < (r : Int)) := by omega
              have HD5 := Lib.hid (HD4.out.next HBX.out)
              have LN := HD5.out.len
              rw [HQ.out] at LN
              have EV := evict_any n wz (by rw [HQ.out]; omega) HD5.out
              rw [HQ.out] at EV
              have HB5 := Lib.hid (HB4.out.trans (HBX.out.mono HB4.out.size))
              obtain ⟨d, hd2, hdr⟩ : ∃ d : Nat, (min n (r : Int)).toNat = d ∧ d ≤ r := ⟨_, rfl, by omega⟩
              rw [hd2] at EV
              have HMN : Hid (min (max 0 n) ((k : Int) - (j : Int)) = (d : Int)) := by
                have h1 := HCQ.out
                show _ = _
                omega
              clear hd2 HBX HB4 HD4 HO4
              have hcq := HCQ.out
              go_wp2_with fail
              with_reducible refine LN.mono ?_
              rintro e w' ⟨rfl, rfl⟩
              clear LN
              unfold EvictOk at EV
              go_wp2_with fail
              with_reducible refine EV.mono ?_
              rintro e w6 ⟨v6, rfl, ho6, hd6, hk6⟩
              clear hcq EV
              have hd40 : d ≤ 40 := by omega
              have HB6 := Lib.hid (HB5.out.trans (hk6.below HB5.out.size HF.out))
              obtain ⟨p6, c6, rfl⟩ := own_slice ho6
              have HO6 := Lib.hid ho6
              have HGL : Hid ((evO q d).length = d) := Lib.hid (evO_le (by rw [HQ.out]; exact hdr))
              have HAP : Hid (∀ i j, i < (evL q d).length → j < d → eltB (nth (evO q d) j) (nth (evL q d) i) = false) := fun i j h1 h2 => ev_apart HSE.out h1 (by rw [HGL.out]; exact h2)
              have HEL : Hid ((evL q d).length ≤ 40) := Lib.hid (by rw [evL_length, HQ.out]; omega)
              have S := sortedD w6 (m := evL q d) (by have := HEL.out; omega) hd6
              unfold SortedOk at S
              generalize evL q d = q2 at *
              generalize evO q d = gone at *
              obtain ⟨Q2, hQ2⟩ : ∃ Q2, q2.length = Q2 := ⟨_, rfl⟩
              rw [hQ2] at S
              have HQ2 := Lib.hid hQ2
              have hQ240 : Q2 ≤ 40 := by have := HEL.out; omega
              have hmn := HMN.out
              clear hQ2 ho6 hd6 hk6 HB5 HD5
              go_wp2_with fail
              with_reducible refine S.mono ?_
              rintro e w7 ⟨v7, rfl, ho7, be7⟩
              have HB7 := Lib.hid (HB6.out.trans (be7.mono HB6.out.size))
              have HO67 := Lib.hid (own_kept HO6.out be7)
              obtain ⟨p7', c7', rfl⟩ := own_slice ho7
              have HO7 := Lib.hid ho7
              clear be7 ho7 S HO6 HB6 hmn
              go_wp2
              go_loopw [106] (fun i wx => ∃ s : Nat, s ≤ Q2 ∧ i = .int .i64 (s : Int) ∧ Below w7.heap.size w7 wx) (fun i _ => Q2 - (intOf i).toNat)
              case atStart => exact ⟨0, by omega, rfl, Below.refl _ _⟩
              case round =>
                obtain ⟨s, hs, rfl, hbx⟩ := hrel
                have HBX := Lib.hid hbx
                clear hbx
                obtain ⟨wu, hwu⟩ : ∃ q, q = wr := ⟨wr, rfl⟩
                subst hwu
                by_cases hlt4 : s < Q2
                · obtain ⟨g, rfl, hg, c0, c1, c2, c3⟩ := own_at (own_kept HO7.out HBX.out) HQ2.out hlt4
                  have HAPS : Hid (∀ j, j < d → eltB (nth gone j) (nth q2 s) = false) := fun j h => HAP.out s j (by rw [HQ2.out]; exact hlt4) h
                  generalize nth q2 s = x at *
                  have c01 : (0 : Int) ≤ (s : Int) := by omega
                  have c02 : (s : Int) < (Q2 : Int) := by omega
                  have HN := Lib.hid (heap_alloc_new wu (.cells #[.int .i64 x.b, .int .i64 x.d, .int .i64 x.s, .int .i64 x.i] 32))
                  have HBA := Lib.hid (HBX.out.alloc HBX.out.size (.cells #[.int .i64 x.b, .int .i64 x.d, .int .i64 x.s, .int .i64 x.i] 32))
                  have t1 : decide ((s : Int) < (Q2 : Int)) = true := decide_eq_true c02
                  clear HBX
                  go_wp2
                  clear t1
                  go_loopw [112] (fun i wx => ∃ t : Nat, t ≤ d ∧ i = .int .i64 (t : Int) ∧ Below w7.heap.size w7 wx ∧ wx.heap[wu.heap.size]? = some (.cells #[.int .i64 x.b, .int .i64 x.d, .int .i64 x.s, .int .i64 x.i] 32 (0, 0))) (fun i _ => d - (intOf i).toNat)
                  case atStart => exact ⟨0, by omega, rfl, HBA.out, HN.out⟩
                  case round =>
                    obtain ⟨t, ht, rfl, hbx, hxv⟩ := hrel
                    have HBX := Lib.hid hbx
                    have HXV := Lib.hid hxv
                    clear hbx hxv
                    by_cases hlt5 : t < d
                    · obtain ⟨g, rfl, hg, y0, y1, y2, y3⟩ := own_at (own_kept HO67.out HBX.out) HGL.out hlt5
                      have hap := HAPS.out t hlt5
                      generalize nth gone t = y at *
                      have LS := less_any y x
                      rw [hap] at LS
                      unfold entV at LS
                      have B1 : Below wr.heap.size wr (wr.alloc (.cells #[.int .i64 y.b, .int .i64 y.d, .int .i64 y.s, .int .i64 y.i] 32)) := (Below.refl _ _).alloc (Nat.le_refl _) _
                      have X1 := (B1.block _ (Array.getElem?_eq_some_iff.1 HXV.out).1).trans HXV.out
                      have ⟨x0, x1, x2, x3, _⟩ := cells4 X1
                      have HBY := Lib.hid (HBX.out.trans (B1.mono HBX.out.size))
                      have HX1 := Lib.hid X1
                      have d01 : (0 : Int) ≤ (t : Int) := by omega
                      have d02 : (t : Int) < (d : Int) := by omega
                      clear HBX B1 X1 hap
                      go_wp2_with fail
                      with_reducible refine (LS _).mono ?_
                      rintro e w9 ⟨rfl, m9⟩
                      have F1 := Lib.hid (HBY.out.trans (m9.below.mono HBY.out.size))
                      have F2 := Lib.hid ((m9.below.block _ (Array.getElem?_eq_some_iff.1 HX1.out).1).trans HX1.out)
                      clear m9 HBY HX1 LS
                      go_wp2
                      go_roundw
                      case rel => exact ⟨t + 1, by omega, by go_num, F1.out, F2.out⟩
                      case measure => simp [intOf]; omega
                    · obtain rfl : t = d := by omega
                      have nl5 : ¬ ((t : Int) < (t : Int)) := by omega
                      go_wp2
                      go_roundw
                      case rel => exact ⟨s + 1, by omega, by go_num, HBX.out⟩
                      case measure => simp [intOf]; omega
                · obtain rfl : s = Q2 := by omega
                  have nl4 : ¬ ((s : Int) < (s : Int)) := by omega
                  have FIN := Lib.hid (HB7.out.trans (HBX.out.mono HB7.out.size))
                  clear HBX
                  go_wp2
                  go_ret
                  exact ⟨rfl, FIN.out⟩
/-! ### the row -/
open Go.ChangeShapes Go.WideShapes Go.ChangeAt
set_option maxRecDepth 100000 in
theorem lifted (os : Os) (started : os.Started) (H : Type) (enc : TypeId × Value → H) :
    ReturnsInHanded {} Try.checked os 6 .any (Rows.deheapCutsSpec.pre6 enc Try.prog Try.f6 Rows.deheapCutsRow.domain false) (Rows.deheapCutsSpec.post enc Try.prog Try.f6 false true false false) := by
  refine returnsInHanded_of_change (C := Try.checked) own started (by kernel_rfl) Try.func6
    (ChangeSpec.witness6 (enc := enc) (C := Try.checked) false ⟨#[], #[.slice none 0 0, .int .i64 0, .int .i64 0], []⟩ 8 (by kernel_rfl) (by kernel_rfl) (by kernel_rfl) (by kernel_rfl)) ?_
  intro W base args ds gs before hval0 hW hcnd _
  have hval : ∀ (j : Nat) t v, Try.f6.params[j]? = some t → args[j]? = some v → Value.okWide Try.prog W .any base t v := hval0
  have hW' := hW
  obtain ⟨p, q, hA0, hV, rfl, hfz, hnd⟩ := hW
  have hA : DataW.TrodAll enc Try.prog W 0 (fun _ => true) true Try.f6.params.toList args.toList ds p := hA0
  rw [Try.params6] at hA hval
  obtain ⟨v0, vs0, d0, ds0, p0, q0, hargs, rfl, rfl, h0, r0⟩ := trodAll_cons hA
  obtain ⟨v1, vs1, d1, ds1, p1, q1, rfl, rfl, rfl, h1, r1⟩ := trodAll_cons r0
  obtain ⟨v2, vs2, d2, ds2, p2, q2, rfl, rfl, rfl, h2, r2⟩ := trodAll_cons r1
  obtain ⟨rfl, rfl, rfl⟩ := trodAll_nil r2
  obtain rfl : args = #[v0, v1, v2] := by cases args; simp_all
  obtain ⟨rfl, rfl⟩ := trodVars_none hV
  have k0 := h0
  have lt0 : ∀ x ∈ p0, x.block < W.heap.size := by obtain ⟨m, hm⟩ := k0; exact DataW.trod_lt m _ _ _ hm
  obtain ⟨x0, l0, c0, zs0, w0, rfl⟩ := open_ents (hval 0 22 v0 rfl rfl) h0
  have k1 := h1
  have lt1 : ∀ x ∈ p1, x.block < W.heap.size := by obtain ⟨m, hm⟩ := k1; exact DataW.trod_lt m _ _ _ hm
  obtain ⟨a1, rfl, _⟩ := open_int Try.underlying2 (hval 1 2 v1 rfl rfl) h1
  have k2 := h2
  have lt2 : ∀ x ∈ p2, x.block < W.heap.size := by obtain ⟨m, hm⟩ := k2; exact DataW.trod_lt m _ _ _ hm
  obtain ⟨a2, rfl, _⟩ := open_int Try.underlying3 (hval 2 3 v2 rfl rfl) h2
  clear hA0 hval0
  refine (walk x0 l0 c0 zs0 a1 a2 W w0).mono fun e W' ⟨he, bel⟩ => ?_
  subst he
  exact ⟨_, rfl, _, _, _, [], _, [], hW', trodAll_mk1 (shut_bool Try.underlying4 _), (trodAll_cons_mk (Below.trod laidOut (by kernel_rfl) (of_decide_eq_true (by kernel_rfl)) k0 bel lt0) (trodAll_cons_mk (Below.trod laidOut (by kernel_rfl) (of_decide_eq_true (by kernel_rfl)) k1 bel lt1) (trodAll_cons_mk (Below.trod laidOut (by kernel_rfl) (of_decide_eq_true (by kernel_rfl)) k2 bel lt2) trodAll_mk0))), rfl, bel.frame _, fun h => by cases h⟩

theorem over : Rows.deheapCutsRow.holds Try.pinned (OpenSpec.ofChange Rows.deheapCutsSpec) :=
  OpenClaim.holds_of_wide 6 Try.f6 rfl rfl rfl rfl rfl rfl rfl ⟨rfl, rfl, rfl, rfl, rfl⟩ rfl rfl rfl rfl rfl (by kernel_rfl) Try.func6 (by kernel_rfl)
    (of_decide_eq_true (by kernel_rfl)) (by unfold Func.isWrapper; first | (rw [if_pos (by decide +kernel)]; kernel_rfl) | (rw [if_neg (by decide +kernel)]; exact ⟨rfl, rfl⟩))
    (fun os started H enc _ => lifted os started H enc)

end Go.Proofs.Ytiighhcilgjebaa.deheapCuts
namespace Go.Proofs.Ytiighhcilgjebaa
theorem deheapCuts_holds : Rows.DeheapCutsSaid := deheapCuts.over
#print axioms deheapCuts_holds
end Go.Proofs.Ytiighhcilgjebaa
