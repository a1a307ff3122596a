/-
  IheapSorts (layer 6, P6.1): popped from one end, or from both in turn, a heap tells its entries in their order, built or pushed one by one: for every slice of entries and every slice of truths the law returns true, and both slices read as they did. No condition.
-/
import Derived.Test.YtccjahlpakiadaaKeySort2
import Derived.Test.YtccjahlpakiadaaTwoKit
import Derived.Test.YtccjahlpakiadaaPlayKit
import Derived.Deep.CutBlock
namespace Go.Proofs.Ytccjahlpakiadaa.I.iheapSorts
open Go.Proofs.Ytccjahlpakiadaa
set_option maxRecDepth 100000
open Go.RowKit Go.Sort

theorem sort_any (l : List En) (hl : l.length ≤ 100) (v : Value) (w : World) (h : Lists w v l) : Calls Try.prog 22 #[v] w (IsSorted l w) := by
  rcases h with ⟨rfl, rfl⟩ | ⟨g, c, rfl, hL⟩
  · exact sort_nil w
  · exact sort_some l hl g c w hL
theorem lists_some {w : World} {p : Option Addr} {n c : Nat} {l : List En} (h : Lists w (.slice p n c) l) (h0 : 0 < l.length) : ∃ g, p = some ⟨g, 0, none⟩ ∧ ListAt w g l := by
  rcases h with ⟨_, rfl⟩ | ⟨g, c', e, hL⟩
  · simp at h0
  · simp at e
    exact ⟨g, e.1, hL⟩
theorem lists_under {w w' : World} {v : Value} {l : List En} {N : Nat} (h : Lists w v l) (b : Below N w w') (hN : w.heap.size ≤ N) : Lists w' v l := h.next (b.mono hN)
def planSl (b off n m c : Nat) (x : En) : Plan := { ks := [0, 0, 0, 0, 0, 0, 0, 0, 0, 0, 0, 2, 0], ds := [76, 77, 78, 79, 80, 81, 82, 83, 84, 85, 86, 0, 10], vs := [.slice (some ⟨b, off, none⟩) n c, .slice (some ⟨b, off, none⟩) n c, .int .i64 (n : Int), .int .i64 (m : Int), .pointer (some ⟨b, off + m * 4, none⟩), .agg #[.int .i64 x.b, .int .i64 x.d, .int .i64 x.s, .int .i64 x.i], .slice (some ⟨b, off, none⟩) n c, .slice (some ⟨b, off, none⟩) n c, .int .i64 (n : Int), .int .i64 (m : Int), .slice (some ⟨b, off, none⟩) m c, undef, .slice (some ⟨b, off, none⟩) m c], ss := [0, 0, 0, 0, 0, 0, 0, 0, 0, 0, 0, 0, 0], zs := [#[], #[], #[], #[], #[], #[], #[], #[], #[], #[], #[], #[], #[]], fs := [#[], #[], #[], #[], #[], #[], #[], #[], #[], #[], #[], #[], #[]], ts := [0, 0, 0, 0, 0, 0, 0, 0, 0, 0, 0, 0, 0] }
def planSf (b off n m c : Nat) (x : En) : Plan := { ks := [0, 0, 0, 0, 0, 2, 0], ds := [97, 98, 99, 100, 101, 0, 10], vs := [.slice (some ⟨b, off, none⟩) n c, .pointer (some ⟨b, off, none⟩), .agg #[.int .i64 x.b, .int .i64 x.d, .int .i64 x.s, .int .i64 x.i], .slice (some ⟨b, off, none⟩) n c, .slice (if c = 1 then some ⟨b, off, none⟩ else some ⟨b, off + 4, none⟩) m (c - 1), undef, .slice (if c = 1 then some ⟨b, off, none⟩ else some ⟨b, off + 4, none⟩) m (c - 1)], ss := [0, 0, 0, 0, 0, 0, 0], zs := [#[], #[], #[], #[], #[], #[], #[]], fs := [#[], #[], #[], #[], #[], #[], #[]], ts := [0, 0, 0, 0, 0, 0, 0] }
set_option maxHeartbeats 40000000 in
theorem walk (a : Option Addr) (len cap : Nat) (z : Nat → En) (a2 : Option Addr) (len2 cap2 : Nat) (t : Nat → Bool) (w : World) (h : IsEnts w a len cap z) (h2 : IsTruths w a2 len2 cap2 t) :
    Calls Try.prog 5 #[.slice a len cap, .slice a2 len2 cap2] w fun e w' => e = .returned (.bool true) ∧ Below w.heap.size w w' := by
  have AL := all_any 60 (by omega) a len cap z w h
  rw [show ((60 : Nat) : Int) = 60 from rfl] at AL
  obtain ⟨hE, hlc, hcm⟩ := h
  obtain ⟨hT, hlc2, hcm2⟩ := h2
  unfold maxLen at hcm hcm2
  obtain ⟨L, eL⟩ : ∃ L, min len 60 = L := ⟨_, rfl⟩
  have hL2 : L ≤ 60 := by omega
  unfold IsAll at AL
  rw [eL] at AL
  clear eL
  have HT := Lib.hid hT
  clear hE hT
  have hal : (ls z L).length = L := ls_length _ _
  generalize ls z L = al at *
  go_enter Try.func5, Try.ntmps5
  go_wp2_with fail
  with_reducible refine AL.mono ?_
  rintro e w1 ⟨va, rfl, own1, b1⟩
  have LA1 : Lists w1 va al := lists_own (by rw [hal]; exact own1)
  have BU := build_any al (by omega) va w1 LA1
  obtain ⟨pa, ca, rfl⟩ := own_form own1
  have HB1 := Lib.hid b1
  have HLA := Lib.hid LA1
  have HAL := Lib.hid hal
  clear own1 b1 AL LA1 hal
  go_wp2_with fail
  with_reducible refine BU.mono ?_
  rintro e w2 ⟨hb, v2, l2, rfl, ha2, p2, r2, b2⟩
  have NW := new_any w2
  have HB2 := Lib.hid b2
  have HA2 := Lib.hid ha2
  have HP2 := Lib.hid p2
  have HR2 := Lib.hid r2
  clear ha2 p2 r2 b2 BU
  go_wp2_with fail
  with_reducible refine NW.mono ?_
  rintro e w3 ⟨rfl, hg3, m3⟩
  have WK := wakes_any w3
  have hw1 := HB1.out.size
  have hw2 := HB2.out.size
  have B3 : Below w2.heap.size w2 w3 := m3.below
  obtain ⟨G, eG⟩ : ∃ G, w2.heap.size = G := ⟨_, rfl⟩
  have hbG : hb < G := by rw [← eG]; exact HA2.out.lt
  have HVG : Hid (∀ q, v2.ownBlock = some q → q < G) := fun q e => by rw [← eG]; exact (HA2.out.row.lt q e).2
  rw [eG] at B3 hg3 hw2 ⊢
  have HB3 := Lib.hid B3
  have HG3 := Lib.hid hg3
  have HW2 := Lib.hid eG
  clear hg3 m3 NW B3 eG
  go_wp2_with fail
  with_reducible refine WK.mono ?_
  rintro e w4 ⟨rfl, b4⟩
  have hs3 := HB3.out.size
  rw [HW2.out] at hs3
  have HB4 : Hid (Below G w2 w4) := HB3.out.trans (b4.mono hs3)
  have HG4 := Lib.hid (HG3.out.next b4)
  clear b4 WK HB3 HG3 hs3
  go_wp2
  go_loopw [39] (fun i wr => ∃ (k : Nat) (u : Value) (m : List En), k ≤ L ∧ i = .int .i64 k ∧ HeapAt wr G G u m ∧ Right m ∧ m.Perm (al.take k) ∧ Below G w2 wr) (fun i _ => L - (intOf i).toNat)
  case atStart => exact ⟨0, _, [], by omega, rfl, HG4.out, right_nil, by simp, HB4.out⟩
  case round =>
    obtain ⟨k, u, m, hk, rfl, hg, hr, hp, hbe⟩ := hrel
    clear HG4 HB4
    have hml : m.length = k := by rw [hp.length_eq, List.length_take, HAL.out]; omega
    have hz2 := hbe.size
    have hla : Lists wr (.slice pa L ca) al := (HLA.out.next HB2.out).next (by rw [HW2.out]; exact hbe)
    by_cases hlt : k < L
    · obtain ⟨ga, rfl, hL⟩ := lists_some hla (by rw [HAL.out]; omega)
      have hka : k < al.length := by rw [HAL.out]; exact hlt
      obtain ⟨c0, c1, c2, c3⟩ := hL.nth hka
      obtain ⟨x, hx⟩ : ∃ x, nth al k = x := ⟨_, rfl⟩
      rw [hx] at c0 c1 c2 c3
      have hp' : (m ++ [x]).Perm (al.take (k + 1)) := by rw [take_nth hka, hx]; exact hp.append_right _
      have B1 : Below wr.heap.size wr (wr.alloc (.cells #[.int .i64 x.b, .int .i64 x.d, .int .i64 x.s, .int .i64 x.i] 39)) := (Below.refl _ _).alloc (Nat.le_refl _) _
      have PU := push_any m (by omega) G G u x (wr.alloc (.cells #[.int .i64 x.b, .int .i64 x.d, .int .i64 x.s, .int .i64 x.i] 39)) (hg.next B1) hr
      unfold entV at PU
      have hzG : G ≤ wr.heap.size := by have := HW2.out; omega
      have HBA : Hid (Below G w2 (wr.alloc (.cells #[.int .i64 x.b, .int .i64 x.d, .int .i64 x.s, .int .i64 x.i] 39))) := hbe.trans (B1.mono hzG)
      have HVU : Hid (∀ q, u.ownBlock = some q → G ≤ q) := fun q e => (hg.row.lt q e).1
      have HPP := Lib.hid hp'
      have HZA : Hid (G ≤ (wr.alloc (.cells #[.int .i64 x.b, .int .i64 x.d, .int .i64 x.s, .int .i64 x.i] 39)).heap.size) := Nat.le_trans hzG B1.size
      have c01 : (0 : Int) ≤ (k : Int) := by omega
      have c03 : (k : Int) < (L : Int) := by omega
      clear hL hka hx hg hr hp hbe hml hla hp' B1 hz2 hzG
      go_wp2_with fail
      with_reducible refine PU.mono ?_
      rintro e w5 ⟨u5, m5, rfl, ha5, o5, r5, p5, q5⟩
      have HA5 := Lib.hid ha5
      have HR5 := Lib.hid r5
      have HP5 := Lib.hid (p5.trans HPP.out)
      have HB5 := Lib.hid (HBA.out.trans (o5.under (Nat.le_refl _) HVU.out HZA.out))
      clear PU ha5 o5 r5 p5 q5 HBA HVU HPP HZA c0 c1 c2 c3
      go_wp2
      go_roundw
      case rel => exact ⟨k + 1, u5, m5, by omega, by go_num, HA5.out, HR5.out, HP5.out, HB5.out⟩
      case measure => simp [intOf]; omega
    · obtain rfl : k = L := by omega
      have SO := sort_any al (by rw [HAL.out]; omega) _ wr hla
      unfold IsSorted at SO
      rw [HAL.out] at SO
      rw [List.take_of_length_le (by rw [HAL.out]; exact Nat.le_refl _)] at hp
      have HG := Lib.hid hg
      have HR := Lib.hid hr
      have HP := Lib.hid hp
      have HBE := Lib.hid hbe
      have HUS : Hid (∀ q, u.ownBlock = some q → q < wr.heap.size) := fun q e => (hg.row.lt q e).2
      have hGS := hg.lt
      have hzw : Hid (w2.heap.size ≤ wr.heap.size) := hz2
      clear hg hr hp hbe hml hla hz2
      go_wp2_with fail
      with_reducible refine SO.mono ?_
      rintro e w6 ⟨rfl, hs6, b6⟩
      obtain ⟨gs, egs⟩ : ∃ gs, wr.heap.size = gs := ⟨_, rfl⟩
      have T0 : TwoH w hb G gs G v2 l2 u m (.slice (some ⟨gs, 0, none⟩) k k) (srt l2) w6 := by
        have hl6 : ListAt w6 gs (srt al) := by rw [← egs]; exact listAt_block hs6 rfl
        have e6 := EntL.start hl6 k (by rw [srt_length, HAL.out]; exact Nat.le_refl _)
        rw [srt_length, HAL.out, ← srt_perm_eq HP2.out] at e6
        have hh : HeapAt w6 w.heap.size hb v2 l2 := ((HA2.out.beneath HBE.out hbG HVG.out).next b6).mono hw1
        have bb : Below w.heap.size w w6 := ((HB1.out.trans (HB2.out.mono hw1)).trans (HBE.out.mono (by omega))).trans (b6.mono (by omega))
        exact ⟨hh, HG.out.next b6, e6, bb, by omega, hbG, HVG.out, by omega, fun q e => by have := HUS.out q e; omega⟩
      have P0 : Hid (Two w hb G gs G k (.slice (some ⟨gs, 0, none⟩) k k) w6) := ⟨v2, l2, u, m, T0, HR2.out, HR.out, (srt_perm_eq HP.out).trans (srt_perm_eq HP2.out).symm, by rw [HP2.out.length_eq, HAL.out]⟩
      rw [egs]
      have hGS' : G < gs := by omega
      clear hs6 b6 T0 SO HG HR HP HBE HUS hzw HP2 HR2 HA2 HB1 HB2 HLA HW2 HVG HAL egs hGS hw1 hw2
      go_wp2
      obtain ⟨L, eL⟩ : ∃ L, k = L := ⟨_, rfl⟩
      subst eL
      obtain ⟨w0, ew0⟩ : ∃ q, q = wr := ⟨wr, rfl⟩
      subst ew0
      go_loopw [10, 51] (fun s iv wr => ∃ i : Nat, i ≤ k ∧ iv = .int .i64 i ∧ Two w hb G gs G (k - i) s wr) (fun _ iv _ => k - (intOf iv).toNat)
      case atStart => exact ⟨0, by omega, rfl, P0.out⟩
      case round =>
        obtain ⟨i, hi, rfl, hP⟩ := hrel
        clear P0
        by_cases hik : i < k
        · obtain ⟨v, l, u, m, T, hr, hr', hsm, hl⟩ := hP.at_
          have c01 : (0 : Int) ≤ (i : Int) := by omega
          have c03 : (i : Int) < (k : Int) := by omega
          have HTW := Lib.hid (HT.out.below T.be)
          have HT2 := Lib.hid T
          have HR1 := Lib.hid hr
          have HR2 := Lib.hid hr'
          have HS2 := Lib.hid hsm
          have HL2 := Lib.hid hl
          clear hP T hr hr' hsm hl
          go_upto_region 14 with fail
          go_cut [12] from 54 to 63 (fun lv wx => ∃ b : Bool, lv = .bool b ∧ wr = wx)
          case first =>
            by_cases hi2 : i < len2
            · obtain ⟨b, off, rfl, hb_, hc⟩ := HTW.out.at_ (by omega)
              have c0 := hc i hi2
              have c04 : (i : Int) < (len2 : Int) := by omega
              clear hc
              go_wp2
              go_meet
              exact ⟨_, rfl, rfl⟩
            · have c04 : ¬ (i : Int) < (len2 : Int) := by omega
              go_wp2
              go_meet
              exact ⟨_, rfl, rfl⟩
          case rest =>
            obtain ⟨bl, rfl, rfl⟩ := hcut
            have T := HT2.out
            have hr := HR1.out
            have hr' := HR2.out
            have hsm := HS2.out
            obtain ⟨n, en⟩ : ∃ n, k - i = n := ⟨_, rfl⟩
            have hl : l.length = n := by rw [HL2.out]; exact en
            obtain ⟨off, c, rfl, hlc⟩ := T.es.form (by rw [srt_length]; omega)
            rw [srt_length, hl] at T hlc ⊢
            have M0 := TwoM.start T
            have HEN := Lib.hid en
            have hn1 : 0 < n := by omega
            have hn2 : n ≤ 60 := by omega
            clear HT2 HR1 HR2 HS2 HL2 HTW en
            go_upto_if 65 with fail
            obtain ⟨Rr, eR⟩ : ∃ r, wr.heap.size = r := ⟨_, rfl⟩
            rw [eR] at M0 ⊢
            generalize (((wr.alloc (.cells #[.int .i64 0, .int .i64 0, .int .i64 0, .int .i64 0] 39)).alloc (.cells #[.int .i64 0, .int .i64 0, .int .i64 0, .int .i64 0] 39)).alloc (.cells #[.int .i64 0, .int .i64 0, .int .i64 0, .int .i64 0] 39)) = W0 at *
            clear eR
            cases bl
            case true =>
              have PM := popMax_any l (by omega) (by omega) w.heap.size hb v _ M0.t.hh hr
              unfold IsPopped IsPoppedT entV at PM
              have HM0 := Lib.hid M0
              have HRL := Lib.hid hr
              have HRM := Lib.hid hr'
              have HSM := Lib.hid hsm
              have HMX := Lib.hid fun q hq => hr.max (m := q) hq
              have HMY := Lib.hid fun q hq => hr'.max (m := q) hq
              clear M0 T hr hr' hsm
              go_wp2_with fail
              with_reducible refine PM.mono ?_
              rintro e w5 ⟨rfl, v5, l5, ha5, ho5, r5, p5, q5⟩
              have hx5 := HMX.out l5 p5
              have M5 := HM0.out.popH ho5 ha5 q5
              generalize nth l (lastP l) = x0 at *
              obtain ⟨a0, a1, a2, a3, a4, a5, a6, a7, a8⟩ := cells4 M5.b0
              have M6 := M5.store0 x0
              have hlm : m.length = n := by have := congrArg List.length HSM.out; rw [srt_length, srt_length] at this; omega
              have PG := popMax_any m (by omega) (by omega) G G u _ M6.t.hg HRM.out
              unfold IsPopped IsPoppedT entV at PG
              generalize nth m (lastP m) = y0 at *
              have HM6 := Lib.hid M6
              have HR5 := Lib.hid r5
              have HX5 := Lib.hid hx5
              clear PM ha5 ho5 r5 p5 q5 hx5 M5 M6 HM0 HMX HRL
              go_wp2_with fail
              with_reducible refine PG.mono ?_
              rintro e w7 ⟨rfl, u7, m7, ha7, ho7, r7, p7, q7⟩
              have hmm := HMY.out m7 p7
              rw [HSM.out, HX5.out] at hmm
              obtain ⟨hs7, hy⟩ := List.append_inj' hmm rfl
              simp only [List.cons.injEq, and_true] at hy
              subst hy
              have M7 := HM6.out.popG ho7 ha7 q7
              obtain ⟨b0, b1, b2, b3, b4, b5, b6, b7, b8⟩ := cells4 M7.b1
              have M8 := M7.store1 x0
              rw [HX5.out] at M8
              have hml : l5.length + 1 = n := by have := congrArg List.length HX5.out; simp [srt_length] at this; omega
              obtain ⟨ml, eml⟩ : ∃ ml, l5.length = ml := ⟨_, rfl⟩
              have HML := Lib.hid eml
              rw [eml] at hml
              have HC : Hid (∀ W, Below (Rr + 1 + 1) ((((w7.setCell ⟨Rr + 1, 0, none⟩ (.int .i64 x0.b)).setCell ⟨Rr + 1, 1, none⟩ (.int .i64 x0.d)).setCell ⟨Rr + 1, 2, none⟩ (.int .i64 x0.s)).setCell ⟨Rr + 1, 3, none⟩ (.int .i64 x0.i)) W → W.cell? ⟨gs, off + ml * 4, none⟩ = some (.int .i64 x0.b) ∧ W.cell? ⟨gs, off + ml * 4 + 1, none⟩ = some (.int .i64 x0.d) ∧ W.cell? ⟨gs, off + ml * 4 + 2, none⟩ = some (.int .i64 x0.s) ∧ W.cell? ⟨gs, off + ml * 4 + 3, none⟩ = some (.int .i64 x0.i)) := by
                intro W hW
                have hsR := M8.sR
                have q := (M8.t.under (hW.mono (by omega))).es.front.1
                rw [srt_length, eml] at q
                exact q
              have HM8 := Lib.hid M8
              have HR7 := Lib.hid r7
              have HS7 := Lib.hid hs7
              clear PG ha7 ho7 r7 p7 q7 hmm M7 M8 HM6 HMY HRM HX5 HSM hs7 hlm eml a0 a1 a2 a3 a4 a5 a6 a7 a8
              have hm1 : (n : Int) - 1 = (ml : Int) := by omega
              have kw : IntKind.i64.wrap (ml : Int) = (ml : Int) := by rw [IntKind.wrap_i64]; omega
              have c1 : (0 : Int) ≤ (ml : Int) := by omega
              have c2 : (ml : Int) < (n : Int) := by omega
              have c3 : (ml : Int) ≤ (c : Int) := by omega
              go_wp2
              clear b0 b1 b2 b3 b4 b5 b6 b7 b8
              generalize ((((w7.setCell ⟨Rr + 1, 0, none⟩ (.int .i64 x0.b)).setCell ⟨Rr + 1, 1, none⟩ (.int .i64 x0.d)).setCell ⟨Rr + 1, 2, none⟩ (.int .i64 x0.s)).setCell ⟨Rr + 1, 3, none⟩ (.int .i64 x0.i)) = W8 at *
              have ok : (planSl gs off n ml c x0).ok = true := rfl
              refine region_inv (Inv := fun lq_ aq_ wr => ∃ (e : Nat → Bool) (t : Nat → Value), lq_ = #[e 0, e 1, e 2, e 3, e 4, e 5, e 6, e 7, e 8, e 9, e 10, e 11, e 12] ∧ aq_ = ⟨#[.slice a len cap, .slice a2 len2 cap2, undef, undef, u4, .slice pa k ca, .pointer (some ⟨hb, 0, none⟩), .pointer (some ⟨G, 0, none⟩), undef, u9, t 10, .int .i64 (i : Int), .bool true, .pointer (some ⟨Rr, 0, none⟩), .pointer (some ⟨Rr + 1, 0, none⟩), .bool true, .bool true, .pointer (some ⟨Rr + 1 + 1, 0, none⟩), undef, undef, undef, undef, .slice a len cap, .slice pa k ca, .slice pa k ca, .pointer (some ⟨hb, 0, none⟩), .pointer (some ⟨G, 0, none⟩), .pointer (some ⟨hb, 0, none⟩), .bool false, .bool false, .pointer (some ⟨G, 0, none⟩), .bool false, .bool false, .bool false, .bool true, .bool false, .bool false, .slice pa k ca, .int .i64 (k : Int), .int .i64 (k : Int), .bool false, u41, u42, u43, u44, u45, u46, .slice pa k ca, .slice (some ⟨gs, 0, none⟩) k k, .slice pa k ca, .int .i64 (k : Int), .int .i64 (i : Int), .bool true, .int .i64 (i : Int), u54, u55, u56, u57, u58, u59, u60, u61, u62, u63, .agg #[.int .i64 0, .int .i64 0, .int .i64 0, .int .i64 0], .bool true, .tuple #[.agg #[.int .i64 x0.b, .int .i64 x0.d, .int .i64 x0.s, .int .i64 x0.i], .bool true], .pointer (some ⟨hb, 0, none⟩), .tuple #[.agg #[.int .i64 x0.b, .int .i64 x0.d, .int .i64 x0.s, .int .i64 x0.i], .bool true], .agg #[.int .i64 x0.b, .int .i64 x0.d, .int .i64 x0.s, .int .i64 x0.i], .bool true, .tuple #[.agg #[.int .i64 x0.b, .int .i64 x0.d, .int .i64 x0.s, .int .i64 x0.i], .bool true], .pointer (some ⟨G, 0, none⟩), .tuple #[.agg #[.int .i64 x0.b, .int .i64 x0.d, .int .i64 x0.s, .int .i64 x0.i], .bool true], .agg #[.int .i64 x0.b, .int .i64 x0.d, .int .i64 x0.s, .int .i64 x0.i], .bool true, t 76, t 77, t 78, t 79, t 80, t 81, t 82, t 83, t 84, t 85, t 86, u87, u88, u89, u90, u91, u92, u93, u94, u95, u96, u97, u98, u99, u100, u101, u102, u103, u104, u105, u106, u107, u108, u109, u110, u111, u112, u113, u114, u115, u116, u117, u118, undef, undef, undef, undef, undef, undef, undef, undef, undef, undef, undef, undef, undef, undef, undef, undef, undef, undef, undef, undef, undef], []⟩ ∧ Vals (planSl gs off n ml c x0) e t ∧ (MZ W8 (Rr + 1 + 1) x0 (e 11) wr ∧ Late (.slice (some ⟨gs, off, none⟩) n c) e (t 10) 12 [0, 1, 6, 7])) (by kernel_rfl) ?step ?start ?done
              case start => exact ⟨fun _ => false, fun j => if j = 10 then .slice (some ⟨gs, off, none⟩) n c else if j = 76 then u76 else if j = 77 then u77 else if j = 78 then u78 else if j = 79 then u79 else if j = 80 then u80 else if j = 81 then u81 else if j = 82 then u82 else if j = 83 then u83 else if j = 84 then u84 else if j = 85 then u85 else if j = 86 then u86 else undef, rfl, rfl, Vals.start _ _, ⟨⟨fun _ => HM8.out.b2, (fun h => by cases h), (Below.refl _ _).drew⟩, Late.start _ _ _⟩⟩
              case step =>
                rintro lq_ aq_ wr ⟨e, t, rfl, rfl, hs, hm⟩ q_ o ho hi ha
                match q_, ho, hi, ha with
                | 0, ho, hi, ha =>
                  obtain rfl : _ = o := Option.some.inj ho
                  have hi : e 0 = false := hi
                  have T10 : t 10 = .slice (some ⟨gs, off, none⟩) n c := hm.2.get 0 (by decide) hi
                  have H10 := Lib.hid T10
                  refine wpOp_step (i := 0) rfl (fun K hK => ?_)
                  have HK : Shut (∀ a w, _ → K a w) := hK
                  clear hK ho
                  have HS := Lib.hid hs
                  have HM := Lib.hid hm
                  have HI := Lib.hid hi
                  clear hs ha hm hi
                  go_simp
                  exact HK.out _ _ ⟨upd e 0 true, upd (upd t 10 _) 76 _, rfl, rfl, by rw [upd_self H10.out]; exact HS.out.put ok (i := 0) rfl, ⟨HM.out.1, by have q_ := HM.out.2.mark (i := 0) (by decide); rw [H10.out] at q_; exact q_⟩⟩
                | 1, ho, hi, ha =>
                  obtain rfl : _ = o := Option.some.inj ho
                  have hi : e 1 = false := hi
                  have T10 : t 10 = .slice (some ⟨gs, off, none⟩) n c := hm.2.get 1 (by decide) hi
                  have H10 := Lib.hid T10
                  refine wpOp_step (i := 1) rfl (fun K hK => ?_)
                  have HK : Shut (∀ a w, _ → K a w) := hK
                  clear hK ho
                  have HS := Lib.hid hs
                  have HM := Lib.hid hm
                  have HI := Lib.hid hi
                  clear hs ha hm hi
                  go_simp
                  exact HK.out _ _ ⟨upd e 1 true, upd (upd t 10 _) 77 _, rfl, rfl, by rw [upd_self H10.out]; exact HS.out.put ok (i := 1) rfl, ⟨HM.out.1, by have q_ := HM.out.2.mark (i := 1) (by decide); rw [H10.out] at q_; exact q_⟩⟩
                | 2, ho, hi, ha =>
                  obtain rfl : _ = o := Option.some.inj ho
                  have hi : e 2 = false := hi
                  have T1 : t 77 = .slice (some ⟨gs, off, none⟩) n c := hs.val 1 rfl (ha { on := 1, ground := .data } (by simp) rfl)
                  have H1 := Lib.hid T1
                  refine wpOp_step (i := 2) rfl (fun K hK => ?_)
                  have HK : Shut (∀ a w, _ → K a w) := hK
                  clear hK ho
                  have HS := Lib.hid hs
                  have HM := Lib.hid hm
                  have HI := Lib.hid hi
                  clear hs ha hm hi
                  go_simp
                  exact HK.out _ _ ⟨upd e 2 true, upd (upd t 77 _) 78 _, rfl, rfl, by rw [upd_self H1.out]; exact HS.out.put ok (i := 2) rfl, ⟨HM.out.1, HM.out.2.mark (i := 2) (by decide)⟩⟩
                | 3, ho, hi, ha =>
                  obtain rfl : _ = o := Option.some.inj ho
                  have hi : e 3 = false := hi
                  have T2 : t 78 = .int .i64 (n : Int) := hs.val 2 rfl (ha { on := 2, ground := .data } (by simp) rfl)
                  have H2 := Lib.hid T2
                  refine wpOp_step (i := 3) rfl (fun K hK => ?_)
                  have HK : Shut (∀ a w, _ → K a w) := hK
                  clear hK ho
                  have HS := Lib.hid hs
                  have HM := Lib.hid hm
                  have HI := Lib.hid hi
                  clear hs ha hm hi
                  go_simp
                  exact HK.out _ _ ⟨upd e 3 true, upd (upd t 78 _) 79 _, rfl, rfl, by rw [upd_self H2.out]; exact HS.out.put ok (i := 3) rfl, ⟨HM.out.1, HM.out.2.mark (i := 3) (by decide)⟩⟩
                | 4, ho, hi, ha =>
                  obtain rfl : _ = o := Option.some.inj ho
                  have hi : e 4 = false := hi
                  have T0 : t 76 = .slice (some ⟨gs, off, none⟩) n c := hs.val 0 rfl (ha { on := 0, ground := .data } (by simp) rfl)
                  have H0 := Lib.hid T0
                  have T3 : t 79 = .int .i64 (ml : Int) := hs.val 3 rfl (ha { on := 3, ground := .data } (by simp) rfl)
                  have H3 := Lib.hid T3
                  refine wpOp_step (i := 4) rfl (fun K hK => ?_)
                  have HK : Shut (∀ a w, _ → K a w) := hK
                  clear hK ho
                  have HS := Lib.hid hs
                  have HM := Lib.hid hm
                  have HI := Lib.hid hi
                  clear hs ha hm hi
                  go_simp
                  exact HK.out _ _ ⟨upd e 4 true, upd (upd (upd t 76 _) 79 _) 80 _, rfl, rfl, by rw [upd_self H0.out, upd_self H3.out]; exact HS.out.put ok (i := 4) rfl, ⟨HM.out.1, HM.out.2.mark (i := 4) (by decide)⟩⟩
                | 5, ho, hi, ha =>
                  obtain rfl : _ = o := Option.some.inj ho
                  have hi : e 5 = false := hi
                  have T4 : t 80 = .pointer (some ⟨gs, off + ml * 4, none⟩) := hs.val 4 rfl (ha { on := 4, ground := .data } (by simp) rfl)
                  have H4 := Lib.hid T4
                  obtain ⟨q0, q1, q2, q3⟩ := HC.out _ hm.1.be
                  refine wpOp_step (i := 5) rfl (fun K hK => ?_)
                  have HK : Shut (∀ a w, _ → K a w) := hK
                  clear hK ho
                  have HS := Lib.hid hs
                  have HM := Lib.hid hm
                  have HI := Lib.hid hi
                  clear hs ha hm hi
                  go_simp
                  exact HK.out _ _ ⟨upd e 5 true, upd (upd t 80 _) 81 _, rfl, rfl, by rw [upd_self H4.out]; exact HS.out.put ok (i := 5) rfl, ⟨HM.out.1, HM.out.2.mark (i := 5) (by decide)⟩⟩
                | 6, ho, hi, ha =>
                  obtain rfl : _ = o := Option.some.inj ho
                  have hi : e 6 = false := hi
                  have T10 : t 10 = .slice (some ⟨gs, off, none⟩) n c := hm.2.get 6 (by decide) hi
                  have H10 := Lib.hid T10
                  refine wpOp_step (i := 6) rfl (fun K hK => ?_)
                  have HK : Shut (∀ a w, _ → K a w) := hK
                  clear hK ho
                  have HS := Lib.hid hs
                  have HM := Lib.hid hm
                  have HI := Lib.hid hi
                  clear hs ha hm hi
                  go_simp
                  exact HK.out _ _ ⟨upd e 6 true, upd (upd t 10 _) 82 _, rfl, rfl, by rw [upd_self H10.out]; exact HS.out.put ok (i := 6) rfl, ⟨HM.out.1, by have q_ := HM.out.2.mark (i := 6) (by decide); rw [H10.out] at q_; exact q_⟩⟩
                | 7, ho, hi, ha =>
                  obtain rfl : _ = o := Option.some.inj ho
                  have hi : e 7 = false := hi
                  have T10 : t 10 = .slice (some ⟨gs, off, none⟩) n c := hm.2.get 7 (by decide) hi
                  have H10 := Lib.hid T10
                  refine wpOp_step (i := 7) rfl (fun K hK => ?_)
                  have HK : Shut (∀ a w, _ → K a w) := hK
                  clear hK ho
                  have HS := Lib.hid hs
                  have HM := Lib.hid hm
                  have HI := Lib.hid hi
                  clear hs ha hm hi
                  go_simp
                  exact HK.out _ _ ⟨upd e 7 true, upd (upd t 10 _) 83 _, rfl, rfl, by rw [upd_self H10.out]; exact HS.out.put ok (i := 7) rfl, ⟨HM.out.1, by have q_ := HM.out.2.mark (i := 7) (by decide); rw [H10.out] at q_; exact q_⟩⟩
                | 8, ho, hi, ha =>
                  obtain rfl : _ = o := Option.some.inj ho
                  have hi : e 8 = false := hi
                  have T7 : t 83 = .slice (some ⟨gs, off, none⟩) n c := hs.val 7 rfl (ha { on := 7, ground := .data } (by simp) rfl)
                  have H7 := Lib.hid T7
                  refine wpOp_step (i := 8) rfl (fun K hK => ?_)
                  have HK : Shut (∀ a w, _ → K a w) := hK
                  clear hK ho
                  have HS := Lib.hid hs
                  have HM := Lib.hid hm
                  have HI := Lib.hid hi
                  clear hs ha hm hi
                  go_simp
                  exact HK.out _ _ ⟨upd e 8 true, upd (upd t 83 _) 84 _, rfl, rfl, by rw [upd_self H7.out]; exact HS.out.put ok (i := 8) rfl, ⟨HM.out.1, HM.out.2.mark (i := 8) (by decide)⟩⟩
                | 9, ho, hi, ha =>
                  obtain rfl : _ = o := Option.some.inj ho
                  have hi : e 9 = false := hi
                  have T8 : t 84 = .int .i64 (n : Int) := hs.val 8 rfl (ha { on := 8, ground := .data } (by simp) rfl)
                  have H8 := Lib.hid T8
                  refine wpOp_step (i := 9) rfl (fun K hK => ?_)
                  have HK : Shut (∀ a w, _ → K a w) := hK
                  clear hK ho
                  have HS := Lib.hid hs
                  have HM := Lib.hid hm
                  have HI := Lib.hid hi
                  clear hs ha hm hi
                  go_simp
                  exact HK.out _ _ ⟨upd e 9 true, upd (upd t 84 _) 85 _, rfl, rfl, by rw [upd_self H8.out]; exact HS.out.put ok (i := 9) rfl, ⟨HM.out.1, HM.out.2.mark (i := 9) (by decide)⟩⟩
                | 10, ho, hi, ha =>
                  obtain rfl : _ = o := Option.some.inj ho
                  have hi : e 10 = false := hi
                  have T6 : t 82 = .slice (some ⟨gs, off, none⟩) n c := hs.val 6 rfl (ha { on := 6, ground := .data } (by simp) rfl)
                  have H6 := Lib.hid T6
                  have T9 : t 85 = .int .i64 (ml : Int) := hs.val 9 rfl (ha { on := 9, ground := .data } (by simp) rfl)
                  have H9 := Lib.hid T9
                  refine wpOp_step (i := 10) rfl (fun K hK => ?_)
                  have HK : Shut (∀ a w, _ → K a w) := hK
                  clear hK ho
                  have HS := Lib.hid hs
                  have HM := Lib.hid hm
                  have HI := Lib.hid hi
                  clear hs ha hm hi
                  go_simp
                  exact HK.out _ _ ⟨upd e 10 true, upd (upd (upd t 82 _) 85 _) 86 _, rfl, rfl, by rw [upd_self H6.out, upd_self H9.out]; exact HS.out.put ok (i := 10) rfl, ⟨HM.out.1, HM.out.2.mark (i := 10) (by decide)⟩⟩
                | 11, ho, hi, ha =>
                  obtain rfl : _ = o := Option.some.inj ho
                  have hi : e 11 = false := hi
                  have T5 : t 81 = .agg #[.int .i64 x0.b, .int .i64 x0.d, .int .i64 x0.s, .int .i64 x0.i] := hs.val 5 rfl (ha { on := 5, ground := .data } (by simp) rfl)
                  have H5 := Lib.hid T5
                  obtain ⟨q0, q1, q2, q3, f0, f1, f2, f3, qz⟩ := cells4 (hm.1.a hi)
                  refine wpOp_step (i := 11) rfl (fun K hK => ?_)
                  have HK : Shut (∀ a w, _ → K a w) := hK
                  clear hK ho
                  have HS := Lib.hid hs
                  have HM := Lib.hid hm
                  have HI := Lib.hid hi
                  clear hs ha hm hi
                  go_simp
                  exact HK.out _ _ ⟨upd e 11 true, (upd t 81 _), rfl, rfl, by rw [upd_self H5.out]; exact HS.out.skip (i := 11) rfl, ⟨HM.out.1.store HI.out, HM.out.2.mark (i := 11) (by decide)⟩⟩
                | 12, ho, hi, ha =>
                  obtain rfl : _ = o := Option.some.inj ho
                  have hi : e 12 = false := hi
                  have T10 : t 86 = .slice (some ⟨gs, off, none⟩) ml c := hs.val 10 rfl (ha { on := 10, ground := .data } (by simp) rfl)
                  have H10 := Lib.hid T10
                  have A0 : e 0 = true := ha { on := 0, ground := .phase } (by simp) rfl
                  have A1 : e 1 = true := ha { on := 1, ground := .phase } (by simp) rfl
                  have A6 : e 6 = true := ha { on := 6, ground := .phase } (by simp) rfl
                  have A7 : e 7 = true := ha { on := 7, ground := .phase } (by simp) rfl
                  have HALL : Hid (∀ r ∈ [0, 1, 6, 7], e r = true) := by intro r hr_; simp at hr_; rcases hr_ with rfl | rfl | rfl | rfl <;> assumption
                  refine wpOp_step (i := 12) rfl (fun K hK => ?_)
                  have HK : Shut (∀ a w, _ → K a w) := hK
                  clear hK ho
                  have HS := Lib.hid hs
                  have HM := Lib.hid hm
                  have HI := Lib.hid hi
                  clear hs ha hm hi
                  go_simp
                  exact HK.out _ _ ⟨upd e 12 true, upd (upd t 86 _) 10 _, rfl, rfl, by rw [upd_self H10.out]; exact HS.out.put ok (i := 12) rfl, ⟨HM.out.1, HM.out.2.done HALL.out _⟩⟩
                | k + 13, ho, hi, ha => simp at ho
              case done =>
                rintro lq_ aq_ wr ⟨e, t, rfl, rfl, hs, hm⟩ hr
                have hd := ready_done hr rfl (by decide +kernel)
                have e11 : e 11 = true := hd 11 (by decide)
                have e12 : e 12 = true := hd 12 (by decide)
                have v10 : t 10 = .slice (some ⟨gs, off, none⟩) ml c := hs.val 12 rfl e12
                rw [v10]
                have hm1_ := hm.1
                rw [e11] at hm1_
                have M9 := HM8.out.told hm1_
                clear hm1_
                have E9 := M9.t.es.front.2
                rw [srt_length, HML.out] at E9
                have T9 := M9.t.list E9
                have P9 : Hid (Two w hb G gs G (n - 1) _ wr) := ⟨_, _, _, _, T9, HR5.out, HR7.out, HS7.out.symm, by rw [HML.out]; omega⟩
                obtain ⟨x0_, x1_, x2_, x3_, _⟩ := ebox_of M9.b0
                obtain ⟨y0_, y1_, y2_, y3_, _⟩ := ebox_of M9.b1
                obtain ⟨z0_, z1_, z2_, z3_, _⟩ := ebox_of M9.b2
                generalize t 76 = u76, t 77 = u77, t 78 = u78, t 79 = u79, t 80 = u80, t 81 = u81, t 82 = u82, t 83 = u83, t 84 = u84, t 85 = u85, t 86 = u86
                clear hs hd hr hm e11 e12 v10 M9 E9 T9 HM8 HC HR5 HR7 HS7
                go_wp2
                go_roundw
                case rel => exact ⟨i + 1, by omega, by go_num, by rw [show k - (i + 1) = n - 1 by have := HEN.out; omega]; exact P9.out⟩
                case measure => simp [intOf]; omega
            case false =>
              have PM := popMin_any l (by omega) (by omega) w.heap.size hb v _ M0.t.hh hr
              unfold IsPopped IsPoppedT entV at PM
              have HM0 := Lib.hid M0
              have HRL := Lib.hid hr
              have HRM := Lib.hid hr'
              have HSM := Lib.hid hsm
              have HMX := Lib.hid fun q hq => hr.min (m := q) hq
              have HMY := Lib.hid fun q hq => hr'.min (m := q) hq
              clear M0 T hr hr' hsm
              go_wp2_with fail
              with_reducible refine PM.mono ?_
              rintro e w5 ⟨rfl, v5, l5, ha5, ho5, r5, p5, q5⟩
              have hx5 := HMX.out l5 p5
              have M5 := HM0.out.popH ho5 ha5 q5
              generalize nth l 0 = x0 at *
              obtain ⟨a0, a1, a2, a3, a4, a5, a6, a7, a8⟩ := cells4 M5.b0
              have M6 := M5.store0 x0
              have hlm : m.length = n := by have := congrArg List.length HSM.out; rw [srt_length, srt_length] at this; omega
              have PG := popMin_any m (by omega) (by omega) G G u _ M6.t.hg HRM.out
              unfold IsPopped IsPoppedT entV at PG
              generalize nth m 0 = y0 at *
              have HM6 := Lib.hid M6
              have HR5 := Lib.hid r5
              have HX5 := Lib.hid hx5
              clear PM ha5 ho5 r5 p5 q5 hx5 M5 M6 HM0 HMX HRL
              go_wp2_with fail
              with_reducible refine PG.mono ?_
              rintro e w7 ⟨rfl, u7, m7, ha7, ho7, r7, p7, q7⟩
              have hmm := HMY.out m7 p7
              rw [HSM.out, HX5.out] at hmm
              simp only [List.cons.injEq] at hmm
              obtain ⟨hy, hs7⟩ := hmm
              subst hy
              have M7 := HM6.out.popG ho7 ha7 q7
              obtain ⟨b0, b1, b2, b3, b4, b5, b6, b7, b8⟩ := cells4 M7.b1
              have M8 := M7.store1 x0
              rw [HX5.out] at M8
              have hml : l5.length + 1 = n := by have := congrArg List.length HX5.out; simp [srt_length] at this; omega
              obtain ⟨ml, eml⟩ : ∃ ml, l5.length = ml := ⟨_, rfl⟩
              have HML := Lib.hid eml
              rw [eml] at hml
              have HC : Hid (∀ W, Below (Rr + 1 + 1) ((((w7.setCell ⟨Rr + 1, 0, none⟩ (.int .i64 x0.b)).setCell ⟨Rr + 1, 1, none⟩ (.int .i64 x0.d)).setCell ⟨Rr + 1, 2, none⟩ (.int .i64 x0.s)).setCell ⟨Rr + 1, 3, none⟩ (.int .i64 x0.i)) W → W.cell? ⟨gs, off, none⟩ = some (.int .i64 x0.b) ∧ W.cell? ⟨gs, off + 1, none⟩ = some (.int .i64 x0.d) ∧ W.cell? ⟨gs, off + 2, none⟩ = some (.int .i64 x0.s) ∧ W.cell? ⟨gs, off + 3, none⟩ = some (.int .i64 x0.i)) := by
                intro W hW
                have hsR := M8.sR
                have q := (M8.t.under (hW.mono (by omega))).es.back.1
                skip
                exact q
              have HM8 := Lib.hid M8
              have HR7 := Lib.hid r7
              have HS7 := Lib.hid hs7
              clear PG ha7 ho7 r7 p7 q7 M7 M8 HM6 HMY HRM HX5 HSM hs7 hlm eml a0 a1 a2 a3 a4 a5 a6 a7 a8
              have c5 : n - 1 = ml := by omega
              have c6 : 0 < n := by omega
              have c2 : (0 : Int) < (n : Int) := by omega
              have c3 : (1 : Int) ≤ (n : Int) := by omega
              have c4 : (n : Int) ≤ (c : Int) := by omega
              go_wp2
              clear b0 b1 b2 b3 b4 b5 b6 b7 b8
              generalize ((((w7.setCell ⟨Rr + 1, 0, none⟩ (.int .i64 x0.b)).setCell ⟨Rr + 1, 1, none⟩ (.int .i64 x0.d)).setCell ⟨Rr + 1, 2, none⟩ (.int .i64 x0.s)).setCell ⟨Rr + 1, 3, none⟩ (.int .i64 x0.i)) = W8 at *
              have ok : (planSf gs off n ml c x0).ok = true := rfl
              refine region_inv (Inv := fun lq_ aq_ wr => ∃ (e : Nat → Bool) (t : Nat → Value), lq_ = #[e 0, e 1, e 2, e 3, e 4, e 5, e 6] ∧ aq_ = ⟨#[.slice a len cap, .slice a2 len2 cap2, undef, undef, u4, .slice pa k ca, .pointer (some ⟨hb, 0, none⟩), .pointer (some ⟨G, 0, none⟩), undef, u9, t 10, .int .i64 (i : Int), .bool false, .pointer (some ⟨Rr, 0, none⟩), .pointer (some ⟨Rr + 1, 0, none⟩), .bool true, .bool true, .pointer (some ⟨Rr + 1 + 1, 0, none⟩), undef, undef, undef, undef, .slice a len cap, .slice pa k ca, .slice pa k ca, .pointer (some ⟨hb, 0, none⟩), .pointer (some ⟨G, 0, none⟩), .pointer (some ⟨hb, 0, none⟩), .bool false, .bool false, .pointer (some ⟨G, 0, none⟩), .bool false, .bool false, .bool false, .bool true, .bool false, .bool false, .slice pa k ca, .int .i64 (k : Int), .int .i64 (k : Int), .bool false, u41, u42, u43, u44, u45, u46, .slice pa k ca, .slice (some ⟨gs, 0, none⟩) k k, .slice pa k ca, .int .i64 (k : Int), .int .i64 (i : Int), .bool true, .int .i64 (i : Int), u54, u55, u56, u57, u58, u59, u60, u61, u62, u63, .agg #[.int .i64 0, .int .i64 0, .int .i64 0, .int .i64 0], .bool false, u66, u67, u68, u69, u70, u71, u72, u73, u74, u75, u76, u77, u78, u79, u80, u81, u82, u83, u84, u85, u86, .tuple #[.agg #[.int .i64 x0.b, .int .i64 x0.d, .int .i64 x0.s, .int .i64 x0.i], .bool true], .pointer (some ⟨hb, 0, none⟩), .tuple #[.agg #[.int .i64 x0.b, .int .i64 x0.d, .int .i64 x0.s, .int .i64 x0.i], .bool true], .agg #[.int .i64 x0.b, .int .i64 x0.d, .int .i64 x0.s, .int .i64 x0.i], .bool true, .tuple #[.agg #[.int .i64 x0.b, .int .i64 x0.d, .int .i64 x0.s, .int .i64 x0.i], .bool true], .pointer (some ⟨G, 0, none⟩), .tuple #[.agg #[.int .i64 x0.b, .int .i64 x0.d, .int .i64 x0.s, .int .i64 x0.i], .bool true], .agg #[.int .i64 x0.b, .int .i64 x0.d, .int .i64 x0.s, .int .i64 x0.i], .bool true, t 97, t 98, t 99, t 100, t 101, u102, u103, u104, u105, u106, u107, u108, u109, u110, u111, u112, u113, u114, u115, u116, u117, u118, undef, undef, undef, undef, undef, undef, undef, undef, undef, undef, undef, undef, undef, undef, undef, undef, undef, undef, undef, undef, undef], []⟩ ∧ Vals (planSf gs off n ml c x0) e t ∧ (MZ W8 (Rr + 1 + 1) x0 (e 5) wr ∧ Late (.slice (some ⟨gs, off, none⟩) n c) e (t 10) 6 [0, 3])) (by kernel_rfl) ?step ?start ?done
              case start => exact ⟨fun _ => false, fun j => if j = 10 then .slice (some ⟨gs, off, none⟩) n c else if j = 97 then u97 else if j = 98 then u98 else if j = 99 then u99 else if j = 100 then u100 else if j = 101 then u101 else undef, rfl, rfl, Vals.start _ _, ⟨⟨fun _ => HM8.out.b2, (fun h => by cases h), (Below.refl _ _).drew⟩, Late.start _ _ _⟩⟩
              case step =>
                rintro lq_ aq_ wr ⟨e, t, rfl, rfl, hs, hm⟩ q_ o ho hi ha
                match q_, ho, hi, ha with
                | 0, ho, hi, ha =>
                  obtain rfl : _ = o := Option.some.inj ho
                  have hi : e 0 = false := hi
                  have T10 : t 10 = .slice (some ⟨gs, off, none⟩) n c := hm.2.get 0 (by decide) hi
                  have H10 := Lib.hid T10
                  refine wpOp_step (i := 0) rfl (fun K hK => ?_)
                  have HK : Shut (∀ a w, _ → K a w) := hK
                  clear hK ho
                  have HS := Lib.hid hs
                  have HM := Lib.hid hm
                  have HI := Lib.hid hi
                  clear hs ha hm hi
                  go_simp
                  exact HK.out _ _ ⟨upd e 0 true, upd (upd t 10 _) 97 _, rfl, rfl, by rw [upd_self H10.out]; exact HS.out.put ok (i := 0) rfl, ⟨HM.out.1, by have q_ := HM.out.2.mark (i := 0) (by decide); rw [H10.out] at q_; exact q_⟩⟩
                | 1, ho, hi, ha =>
                  obtain rfl : _ = o := Option.some.inj ho
                  have hi : e 1 = false := hi
                  have T0 : t 97 = .slice (some ⟨gs, off, none⟩) n c := hs.val 0 rfl (ha { on := 0, ground := .data } (by simp) rfl)
                  have H0 := Lib.hid T0
                  refine wpOp_step (i := 1) rfl (fun K hK => ?_)
                  have HK : Shut (∀ a w, _ → K a w) := hK
                  clear hK ho
                  have HS := Lib.hid hs
                  have HM := Lib.hid hm
                  have HI := Lib.hid hi
                  clear hs ha hm hi
                  go_simp
                  exact HK.out _ _ ⟨upd e 1 true, upd (upd t 97 _) 98 _, rfl, rfl, by rw [upd_self H0.out]; exact HS.out.put ok (i := 1) rfl, ⟨HM.out.1, HM.out.2.mark (i := 1) (by decide)⟩⟩
                | 2, ho, hi, ha =>
                  obtain rfl : _ = o := Option.some.inj ho
                  have hi : e 2 = false := hi
                  have T1 : t 98 = .pointer (some ⟨gs, off, none⟩) := hs.val 1 rfl (ha { on := 1, ground := .data } (by simp) rfl)
                  have H1 := Lib.hid T1
                  obtain ⟨q0, q1, q2, q3⟩ := HC.out _ hm.1.be
                  refine wpOp_step (i := 2) rfl (fun K hK => ?_)
                  have HK : Shut (∀ a w, _ → K a w) := hK
                  clear hK ho
                  have HS := Lib.hid hs
                  have HM := Lib.hid hm
                  have HI := Lib.hid hi
                  clear hs ha hm hi
                  go_simp
                  exact HK.out _ _ ⟨upd e 2 true, upd (upd t 98 _) 99 _, rfl, rfl, by rw [upd_self H1.out]; exact HS.out.put ok (i := 2) rfl, ⟨HM.out.1, HM.out.2.mark (i := 2) (by decide)⟩⟩
                | 3, ho, hi, ha =>
                  obtain rfl : _ = o := Option.some.inj ho
                  have hi : e 3 = false := hi
                  have T10 : t 10 = .slice (some ⟨gs, off, none⟩) n c := hm.2.get 3 (by decide) hi
                  have H10 := Lib.hid T10
                  refine wpOp_step (i := 3) rfl (fun K hK => ?_)
                  have HK : Shut (∀ a w, _ → K a w) := hK
                  clear hK ho
                  have HS := Lib.hid hs
                  have HM := Lib.hid hm
                  have HI := Lib.hid hi
                  clear hs ha hm hi
                  go_simp
                  exact HK.out _ _ ⟨upd e 3 true, upd (upd t 10 _) 100 _, rfl, rfl, by rw [upd_self H10.out]; exact HS.out.put ok (i := 3) rfl, ⟨HM.out.1, by have q_ := HM.out.2.mark (i := 3) (by decide); rw [H10.out] at q_; exact q_⟩⟩
                | 4, ho, hi, ha =>
                  obtain rfl : _ = o := Option.some.inj ho
                  have hi : e 4 = false := hi
                  have T3 : t 100 = .slice (some ⟨gs, off, none⟩) n c := hs.val 3 rfl (ha { on := 3, ground := .data } (by simp) rfl)
                  have H3 := Lib.hid T3
                  refine wpOp_step (i := 4) rfl (fun K hK => ?_)
                  have HK : Shut (∀ a w, _ → K a w) := hK
                  clear hK ho
                  have HS := Lib.hid hs
                  have HM := Lib.hid hm
                  have HI := Lib.hid hi
                  clear hs ha hm hi
                  go_simp
                  exact HK.out _ _ ⟨upd e 4 true, upd (upd t 100 _) 101 _, rfl, rfl, by rw [upd_self H3.out]; exact HS.out.put ok (i := 4) rfl, ⟨HM.out.1, HM.out.2.mark (i := 4) (by decide)⟩⟩
                | 5, ho, hi, ha =>
                  obtain rfl : _ = o := Option.some.inj ho
                  have hi : e 5 = false := hi
                  have T2 : t 99 = .agg #[.int .i64 x0.b, .int .i64 x0.d, .int .i64 x0.s, .int .i64 x0.i] := hs.val 2 rfl (ha { on := 2, ground := .data } (by simp) rfl)
                  have H2 := Lib.hid T2
                  obtain ⟨q0, q1, q2, q3, f0, f1, f2, f3, qz⟩ := cells4 (hm.1.a hi)
                  refine wpOp_step (i := 5) rfl (fun K hK => ?_)
                  have HK : Shut (∀ a w, _ → K a w) := hK
                  clear hK ho
                  have HS := Lib.hid hs
                  have HM := Lib.hid hm
                  have HI := Lib.hid hi
                  clear hs ha hm hi
                  go_simp
                  exact HK.out _ _ ⟨upd e 5 true, (upd t 99 _), rfl, rfl, by rw [upd_self H2.out]; exact HS.out.skip (i := 5) rfl, ⟨HM.out.1.store HI.out, HM.out.2.mark (i := 5) (by decide)⟩⟩
                | 6, ho, hi, ha =>
                  obtain rfl : _ = o := Option.some.inj ho
                  have hi : e 6 = false := hi
                  have T4 : t 101 = .slice (if c = 1 then some ⟨gs, off, none⟩ else some ⟨gs, off + 4, none⟩) ml (c - 1) := hs.val 4 rfl (ha { on := 4, ground := .data } (by simp) rfl)
                  have H4 := Lib.hid T4
                  have A0 : e 0 = true := ha { on := 0, ground := .phase } (by simp) rfl
                  have A3 : e 3 = true := ha { on := 3, ground := .phase } (by simp) rfl
                  have HALL : Hid (∀ r ∈ [0, 3], e r = true) := by intro r hr_; simp at hr_; rcases hr_ with rfl | rfl <;> assumption
                  refine wpOp_step (i := 6) rfl (fun K hK => ?_)
                  have HK : Shut (∀ a w, _ → K a w) := hK
                  clear hK ho
                  have HS := Lib.hid hs
                  have HM := Lib.hid hm
                  have HI := Lib.hid hi
                  clear hs ha hm hi
                  go_simp
                  exact HK.out _ _ ⟨upd e 6 true, upd (upd t 101 _) 10 _, rfl, rfl, by rw [upd_self H4.out]; exact HS.out.put ok (i := 6) rfl, ⟨HM.out.1, HM.out.2.done HALL.out _⟩⟩
                | k + 7, ho, hi, ha => simp at ho
              case done =>
                rintro lq_ aq_ wr ⟨e, t, rfl, rfl, hs, hm⟩ hr
                have hd := ready_done hr rfl (by decide +kernel)
                have e5 : e 5 = true := hd 5 (by decide)
                have e6 : e 6 = true := hd 6 (by decide)
                have v10 : t 10 = .slice (if c = 1 then some ⟨gs, off, none⟩ else some ⟨gs, off + 4, none⟩) ml (c - 1) := hs.val 6 rfl e6
                rw [v10]
                have hm1_ := hm.1
                rw [e5] at hm1_
                have M9 := HM8.out.told hm1_
                clear hm1_
                have E9 := M9.t.es.back.2
                rw [srt_length, HML.out] at E9
                have T9 := M9.t.list E9
                have P9 : Hid (Two w hb G gs G (n - 1) _ wr) := ⟨_, _, _, _, T9, HR5.out, HR7.out, HS7.out.symm, by rw [HML.out]; omega⟩
                obtain ⟨x0_, x1_, x2_, x3_, _⟩ := ebox_of M9.b0
                obtain ⟨y0_, y1_, y2_, y3_, _⟩ := ebox_of M9.b1
                obtain ⟨z0_, z1_, z2_, z3_, _⟩ := ebox_of M9.b2
                generalize t 97 = u97, t 98 = u98, t 99 = u99, t 100 = u100, t 101 = u101
                clear hs hd hr hm e5 e6 v10 M9 E9 T9 HM8 HC HR5 HR7 HS7
                generalize (if c = 1 then some (⟨gs, off, none⟩ : Addr) else some ⟨gs, off + 4, none⟩) = pq at *
                go_wp2
                go_roundw
                case rel => exact ⟨i + 1, by omega, by go_num, by rw [show k - (i + 1) = n - 1 by have := HEN.out; omega]; exact P9.out⟩
                case measure => simp [intOf]; omega
        · obtain rfl : i = k := by omega
          obtain ⟨v, l, u, m, T, hr, hr', hsm, hl⟩ := hP.at_
          rw [Nat.sub_self] at hl
          obtain rfl : l = [] := List.eq_nil_of_length_eq_zero hl
          obtain rfl : m = [] := List.eq_nil_of_length_eq_zero (by have := congrArg List.length hsm; rw [srt_length, srt_length] at this; simpa using this)
          have PM := popMin_none _ wr (len0 T.hh)
          unfold Told entV zeroE at PM
          have HT2 := Lib.hid T
          clear hP T hr hr' hsm hl
          go_wp2_with fail
          with_reducible refine PM.mono ?_
          rintro e w8 ⟨rfl, b8⟩
          have B9 : Below w8.heap.size w8 (w8.alloc (.cells #[.int .i64 0, .int .i64 0, .int .i64 0, .int .i64 0] 39)) := (Below.refl _ _).alloc (Nat.le_refl _) _
          have T9 := (HT2.out.next b8).next B9
          have PX := popMax_none _ _ (len0 T9.hg)
          unfold Told entV zeroE at PX
          have HT9 := Lib.hid T9
          clear PM b8 B9 T9 HT2
          go_wp2_with fail
          with_reducible refine PX.mono ?_
          rintro e w10 ⟨rfl, b10⟩
          have B11 : Below w10.heap.size w10 (w10.alloc (.cells #[.int .i64 0, .int .i64 0, .int .i64 0, .int .i64 0] 39)) := (Below.refl _ _).alloc (Nat.le_refl _) _
          have T11 := (HT9.out.next b10).next B11
          have LN := len_any _ w.heap.size hb v [] T11.hh
          have HB11 := Lib.hid T11.be
          clear PX b10 B11 T11 HT9
          go_wp2_with fail
          with_reducible refine LN.mono ?_
          rintro e w12 ⟨rfl, rfl⟩
          clear LN
          go_wp2
          go_ret
          exact ⟨rfl, HB11.out⟩

/-! ### the row -/
open Go.ChangeShapes Go.WideShapes Go.ChangeAt
set_option maxRecDepth 100000 in
theorem lifted (os : Os) (started : os.Started) (H : Type) (enc : TypeId × Value → H) :
    ReturnsInHanded {} Try.checked os 5 .any (Rows.iheapSortsSpec.pre6 enc Try.prog Try.f5 Rows.iheapSortsRow.domain false) (Rows.iheapSortsSpec.post enc Try.prog Try.f5 false true false false) := by
  refine returnsInHanded_of_change (C := Try.checked) own started (by kernel_rfl) Try.func5
    (ChangeSpec.witness6 (enc := enc) (C := Try.checked) false ⟨#[], #[.slice none 0 0, .slice none 0 0], []⟩ 8 (by kernel_rfl) (by kernel_rfl) (by kernel_rfl) (by kernel_rfl)) ?_
  intro W base args ds gs before hval0 hW hcnd _
  have hval : ∀ (j : Nat) t v, Try.f5.params[j]? = some t → args[j]? = some v → Value.okWide Try.prog W .any base t v := hval0
  have hW' := hW
  obtain ⟨p, q, hA0, hV, rfl, hfz, hnd⟩ := hW
  have hA : DataW.TrodAll enc Try.prog W 0 (fun _ => true) true Try.f5.params.toList args.toList ds p := hA0
  rw [Try.params5] at hA hval
  obtain ⟨v0, vs0, d0, ds0, p0, q0, hargs, rfl, rfl, h0, r0⟩ := trodAll_cons hA
  obtain ⟨v1, vs1, d1, ds1, p1, q1, rfl, rfl, rfl, h1, r1⟩ := trodAll_cons r0
  obtain ⟨rfl, rfl, rfl⟩ := trodAll_nil r1
  obtain rfl : args = #[v0, v1] := by cases args; simp_all
  obtain ⟨rfl, rfl⟩ := trodVars_none hV
  have k0 := h0
  have lt0 : ∀ x ∈ p0, x.block < W.heap.size := by obtain ⟨m, hm⟩ := k0; exact DataW.trod_lt m _ _ _ hm
  obtain ⟨x0, l0, c0, zs0, w0, rfl⟩ := open_ents (hval 0 22 v0 rfl rfl) h0
  have k1 := h1
  have lt1 : ∀ x ∈ p1, x.block < W.heap.size := by obtain ⟨m, hm⟩ := k1; exact DataW.trod_lt m _ _ _ hm
  obtain ⟨x1, l1, c1, zs1, w1, rfl⟩ := open_bools (hval 1 51 v1 rfl rfl) h1
  clear hA0 hval0
  refine (walk x0 l0 c0 zs0 x1 l1 c1 zs1 W w0 w1).mono fun e W' ⟨he, bel⟩ => ?_
  subst he
  exact ⟨_, rfl, _, _, _, [], _, [], hW', trodAll_mk1 (shut_bool Try.underlying4 _), (trodAll_cons_mk (Below.trod laidOut (by kernel_rfl) (of_decide_eq_true (by kernel_rfl)) k0 bel lt0) (trodAll_cons_mk (Below.trod laidOut (by kernel_rfl) (of_decide_eq_true (by kernel_rfl)) k1 bel lt1) trodAll_mk0)), rfl, bel.frame _, fun h => by cases h⟩

theorem over : Rows.iheapSortsRow.holds Try.pinned (OpenSpec.ofChange Rows.iheapSortsSpec) :=
  OpenClaim.holds_of_wide 5 Try.f5 rfl rfl rfl rfl rfl rfl rfl ⟨rfl, rfl, rfl, rfl, rfl⟩ rfl rfl rfl rfl rfl (by kernel_rfl) Try.func5 (by kernel_rfl)
    (of_decide_eq_true (by kernel_rfl)) (by unfold Func.isWrapper; first | (rw [if_pos (by decide +kernel)]; kernel_rfl) | (rw [if_neg (by decide +kernel)]; exact ⟨rfl, rfl⟩))
    (fun os started H enc _ => lifted os started H enc)

end Go.Proofs.Ytccjahlpakiadaa.I.iheapSorts
namespace Go.Proofs.Ytccjahlpakiadaa
theorem iheapSorts_holds : Rows.IheapSortsSaid := I.iheapSorts.over
#print axioms iheapSorts_holds
end Go.Proofs.Ytccjahlpakiadaa
