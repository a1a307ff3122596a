/-
  IheapPlays (layer 6, P6.1): whatever is pushed and popped, in any order, the answers are those of a list in order: for every slice of entries and every slice of acts the law returns true, and both slices read as they did. No condition.
-/
import Derived.Test.YtccjahlpakiadaaIStands
import Derived.Test.YtccjahlpakiadaaLawAll
import Derived.Test.YtccjahlpakiadaaHeapKeep
import Derived.Test.YtccjahlpakiadaaPlayKit
import Derived.Deep.CutBlock
namespace Go.Proofs.Ytccjahlpakiadaa.I.iheapPlays
open Go.Proofs.Ytccjahlpakiadaa
set_option maxRecDepth 100000
open Go.RowKit Go.Sort

/-- An act's variable. -/
structure EBoxA (n : Nat) (d : Int) (x : En) (w : World) : Prop where
  mk ::
  blk : w.heap[n]? = some (.cells #[.int .i64 d, .int .i64 x.b, .int .i64 x.d, .int .i64 x.s, .int .i64 x.i] 35 (0, 0))
theorem EBoxA.cells {n : Nat} {d : Int} {x : En} {w : World} (h : EBoxA n d x w) : w.cell? ⟨n, 0, none⟩ = some (.int .i64 d) ∧ w.cell? ⟨n, 1, none⟩ = some (.int .i64 x.b) ∧ w.cell? ⟨n, 2, none⟩ = some (.int .i64 x.d) ∧ w.cell? ⟨n, 3, none⟩ = some (.int .i64 x.s) ∧ w.cell? ⟨n, 4, none⟩ = some (.int .i64 x.i) := by
  refine ⟨?_, ?_, ?_, ?_, ?_⟩ <;> (rw [cell_of h.blk]; rfl)
theorem EBoxA.next {n : Nat} {d : Int} {x : En} {w w' : World} (h : EBoxA n d x w) (b : Below w.heap.size w w') : EBoxA n d x w' :=
  ⟨(b.block _ (Array.getElem?_eq_some_iff.1 h.blk).1).trans h.blk⟩
theorem EBoxA.off {w W W' : World} {hb R : Nat} {v m : Value} {l ml : List En} {x y z : En} {d : Int} (h : EBoxA R d z W) (hm : Mid w hb R v l m ml x y W) (ho : Off W hb v W') : EBoxA R d z W' := by
  have hR := hm.hR
  refine ⟨(ho.block _ (Array.getElem?_eq_some_iff.1 h.blk).1 (by omega) (fun e => ?_)).trans h.blk⟩
  rcases hm.ha.row.2 with ⟨rfl, _⟩ | ⟨g, cap, cur, rfl, _, hg, _⟩
  · simp [Value.ownBlock] at e
  · simp [Value.ownBlock] at e
    subst e
    rw [h.blk] at hg
    simp at hg
theorem aboxNew (wr : World) (d : Int) (x : En) (a b : Obj) : EBoxA wr.heap.size d x (((wr.alloc (.cells #[.int .i64 d, .int .i64 x.b, .int .i64 x.d, .int .i64 x.s, .int .i64 x.i] 35)).alloc a).alloc b) :=
  EBoxA.next (EBoxA.next ⟨heap_alloc_new wr _⟩ ((Below.refl _ _).alloc (Nat.le_refl _) _)) ((Below.refl _ _).alloc (Nat.le_refl _) _)
def planR (hb n c : Nat) (p : Option Addr) (x : En) (q : Bool) : Plan := { ks := [0, 0, 0, 0, 0, 0, 0, 0, 0, 0, 0, 0, 0, 0, 0, 0, 0, 0, 0, 0, 0, 0, 0, 0, 0, 2, 0, 0, 0], ds := [116, 117, 118, 119, 120, 121, 122, 123, 124, 125, 126, 127, 128, 129, 130, 131, 132, 133, 134, 135, 136, 137, 138, 139, 140, 141, 142, 143, 144], vs := [.agg #[.int .i64 x.b, .int .i64 x.d, .int .i64 x.s, .int .i64 x.i], .agg #[.int .i64 x.b, .int .i64 x.d, .int .i64 x.s, .int .i64 x.i], .agg #[.int .i64 x.b, .int .i64 x.d, .int .i64 x.s, .int .i64 x.i], .bool false, .bool false, undef, undef, undef, undef, undef, .bool false, .bool false, .bool q, .bool q, .bool false, .bool false, .bool false, .pointer (some ⟨hb, 0, none⟩), .int .i64 (n : Int), .slice p n c, .int .i64 (n : Int), .bool false, .bool false, .bool false, .pointer (some ⟨hb, 0, none⟩), undef, .bool true, .bool false, .bool false], ss := [0, 0, 0, 0, 0, 0, 0, 0, 0, 0, 0, 0, 0, 0, 0, 0, 0, 0, 0, 0, 0, 0, 0, 0, 0, 0, 0, 0, 0], zs := [#[], #[], #[], #[], #[], #[], #[], #[], #[], #[], #[], #[], #[], #[], #[], #[], #[], #[], #[], #[], #[], #[], #[], #[], #[], #[], #[], #[], #[]], fs := [#[], #[], #[], #[], #[], #[], #[], #[], #[], #[], #[], #[], #[], #[], #[], #[], #[], #[], #[], #[], #[], #[], #[], #[], #[], #[], #[], #[], #[]], ts := [0, 0, 0, 0, 0, 0, 0, 0, 0, 0, 0, 0, 0, 0, 0, 0, 0, 0, 0, 0, 0, 0, 0, 0, 0, 0, 0, 0, 0] }
set_option maxHeartbeats 40000000 in
theorem walk (a : Option Addr) (len cap : Nat) (z : Nat → En) (a2 : Option Addr) (len2 cap2 : Nat) (y : Nat → Int × En) (w : World) (h : IsEnts w a len cap z) (h2 : IsActs w a2 len2 cap2 y) :
    Calls Try.prog 3 #[.slice a len cap, .slice a2 len2 cap2] w fun e w' => e = .returned (.bool true) ∧ Below w.heap.size w w' := by
  have AL := all_any 40 (by omega) a len cap z w h
  rw [show ((40 : Nat) : Int) = 40 from rfl] at AL
  obtain ⟨hE, hlc, hcm⟩ := h
  obtain ⟨hE2, hlc2, hcm2⟩ := h2
  unfold maxLen at hcm hcm2
  obtain ⟨L, eL⟩ : ∃ L, min len 40 = L := ⟨_, rfl⟩
  have hLt : (min (len : Int) 40).toNat = L := by omega
  have hL1 : L ≤ len := by omega
  have hL2 : L ≤ 40 := by omega
  rw [eL] at AL
  clear eL
  obtain ⟨K, hKt, hK1, hK2⟩ : ∃ K : Nat, (min (len2 : Int) 60).toNat = K ∧ K ≤ len2 ∧ K ≤ 60 := ⟨_, rfl, by omega, by omega⟩
  have HE := Lib.hid (hE.less hL1)
  have HE2 := Lib.hid (hE2.less hK1)
  clear hE hE2
  go_enter Try.func3, Try.ntmps3
  go_wp2_with fail
  with_reducible refine AL.mono ?_
  rintro e w1 ⟨va, rfl, own1, b1⟩
  have BU := build_any (ls z L) (by rw [ls_length]; omega) va w1 (lists_own (by rw [ls_length]; exact own1))
  have HB1 := Lib.hid b1
  clear own1 b1 AL
  go_wp2_with fail
  with_reducible refine BU.mono ?_
  rintro e w3 ⟨hb, v2, l2, rfl, ha2, p2, r2, b2⟩
  have hl2 : l2.length = L := by rw [p2.length_eq, ls_length]
  have HB3 := Lib.hid (HB1.out.trans (b2.mono HB1.out.size))
  have HA3 := Lib.hid (ha2.mono HB1.out.size)
  have HP2 := Lib.hid p2
  have HR2 := Lib.hid r2
  have HL2 := Lib.hid hl2
  clear ha2 p2 r2 hl2 b2 HB1 BU
  go_wp2
  go_loopw [6, 25] (fun d i wr => ∃ k : Nat, k ≤ L ∧ i = .int .i64 k ∧ wr.ownsRow w3.heap.size 32 4 d k (flatE (srt (ls z k))) ∧ Below w3.heap.size w3 wr) (fun _ i _ => L - (intOf i).toNat)
  case atStart => exact ⟨0, by omega, rfl, by rw [ls_zero]; exact World.ownsRow_nil _ _ _ _, Below.refl _ _⟩
  case round =>
    obtain ⟨k, hk, rfl, hown, hbe⟩ := hrel
    have HB4 := Lib.hid (HB3.out.trans (hbe.mono HB3.out.size))
    by_cases hlt : k < L
    · obtain ⟨b, off, rfl, hb_, hc⟩ := (HE.out.below HB4.out).at_ (by omega)
      obtain ⟨c0, c1, c2, c3⟩ := hc k hlt
      obtain ⟨x, hx⟩ : ∃ x, z k = x := ⟨_, rfl⟩
      rw [hx] at c0 c1 c2 c3
      have B1 : Below wr.heap.size wr (wr.alloc (.cells #[.int .i64 x.b, .int .i64 x.d, .int .i64 x.s, .int .i64 x.i] 30)) := (Below.refl _ _).alloc (Nat.le_refl _) _
      have RP := rpush_any x (srt (ls z k)) (by rw [srt_length, ls_length]; omega) u6 (wr.alloc (.cells #[.int .i64 x.b, .int .i64 x.d, .int .i64 x.s, .int .i64 x.i] 30)) (docL_own (own_next hown B1) (by rw [srt_length, ls_length]))
      unfold IsPut entV at RP
      rw [← hx, put_ls, hx, srt_length, ls_length] at RP
      have c01 : (0 : Int) ≤ (k : Int) := by omega
      have c03 : (k : Int) < (L : Int) := by omega
      have HBE := Lib.hid (hbe.trans (B1.mono hbe.size))
      clear hc hx hown hbe HB4 B1
      go_wp2_with fail
      with_reducible refine RP.mono ?_
      rintro e w4 ⟨v4, rfl, own4, b4⟩
      have O4 := Lib.hid (own4.mono (base' := w3.heap.size) HBE.out.size)
      have B4 := Lib.hid (HBE.out.trans (b4.mono HBE.out.size))
      clear own4 b4 RP HBE c0 c1 c2 c3
      go_wp2
      go_roundw
      case rel => exact ⟨k + 1, by omega, by go_num, O4.out, B4.out⟩
      case measure => simp [intOf]; omega
    · obtain rfl : k = L := by omega
      have hS : srt (ls z k) = srt l2 := (srt_perm_eq HP2.out).symm
      rw [hS] at hown
      have P0 : Play w hb 0 u6 wr := ⟨⟨v2, l2, HA3.out.next hbe, HR2.out, by rw [HL2.out]; omega, docL_own hown (by rw [srt_length, HL2.out])⟩, HB4.out⟩
      have HP := Lib.hid P0
      have WK := wakes_any wr
      clear hown hbe P0 hS HE HB3 HA3 HP2 HR2 HL2 HB4
      go_wp2_with fail
      with_reducible refine WK.mono ?_
      rintro e w5 ⟨rfl, b5⟩
      have P5 := Lib.hid (HP.out.next b5)
      clear b5 HP WK
      go_wp2
      go_loopw [6, 45] (fun m i wr => ∃ j : Nat, j ≤ K ∧ i = .int .i64 j ∧ Play w hb j m wr) (fun _ i _ => K - (intOf i).toNat)
      case atStart => exact ⟨0, by omega, rfl, P5.out⟩
      case round =>
        obtain ⟨j, hj, rfl, hP⟩ := hrel
        clear P5
        by_cases hjK : j < K
        · obtain ⟨b, off, rfl, hb_, hc⟩ := (HE2.out.below hP.be).at_ (by omega)
          obtain ⟨c0, c1, c2, c3, c4⟩ := hc j hjK
          obtain ⟨d, hd⟩ : ∃ d, (y j).1 = d := ⟨_, rfl⟩
          obtain ⟨x, hx⟩ : ∃ x, (y j).2 = x := ⟨_, rfl⟩
          simp only [hd, hx] at c0 c1 c2 c3 c4
          have c01 : (0 : Int) ≤ (j : Int) := by omega
          have c03 : (j : Int) < (K : Int) := by omega
          obtain ⟨v, l, hA, hR, hl, hD⟩ := hP.at_
          have hm0 : (0 : Int) ≤ max 0 d := by omega
          have ht : Int.tmod (max 0 d) 5 = (max 0 d) % 5 := Int.tmod_eq_emod_of_nonneg hm0
          obtain ⟨p, c, rfl, hlc3, -⟩ := hD.at_
          have hl2 : l.length ≤ 900 := by omega
          have M0 := Mid.start hP.be hA hD #[.int .i64 d, .int .i64 x.b, .int .i64 x.d, .int .i64 x.s, .int .i64 x.i] 35
          have N0 : EBoxA wr.heap.size d x (((wr.alloc (.cells #[.int .i64 d, .int .i64 x.b, .int .i64 x.d, .int .i64 x.s, .int .i64 x.i] 35)).alloc (.cells #[.int .i64 0, .int .i64 0, .int .i64 0, .int .i64 0] 39)).alloc (.cells #[.int .i64 0, .int .i64 0, .int .i64 0, .int .i64 0] 32)) := aboxNew _ _ _ _ _
          have hds : (srt l).length = l.length := srt_length l
          rw [hds] at hlc3 M0 ⊢
          have HM := Lib.hid M0
          have HN := Lib.hid N0
          have HR := Lib.hid hR
          obtain ⟨q, hq⟩ : ∃ q, decide (0 < l.length) = q := ⟨_, rfl⟩
          have HQ := Lib.hid hq
          obtain ⟨n, hn⟩ : ∃ n, l.length = n := ⟨_, rfl⟩
          have HNL := Lib.hid hn
          rw [hn] at hl2 hlc3 HM hl
          rw [hn]
          have hq' : decide (0 < n) = q := by rw [← hn]; exact hq
          clear hc hd hx hP hA hR hds hD hq hn N0 M0
          go_upto_block 4 with fail
          obtain ⟨Rr, eR⟩ : ∃ r, wr.heap.size = r := ⟨_, rfl⟩
          rw [eR] at HM HN ⊢
          generalize (((wr.alloc (.cells #[.int .i64 d, .int .i64 x.b, .int .i64 x.d, .int .i64 x.s, .int .i64 x.i] 35)).alloc (.cells #[.int .i64 0, .int .i64 0, .int .i64 0, .int .i64 0] 39)).alloc (.cells #[.int .i64 0, .int .i64 0, .int .i64 0, .int .i64 0] 32)) = W0 at *
          try rw [hq']
          clear hq' eR c0 c1 c2 c3 c4
          go_cut [6, 12, 14, 15] from 46 to 145 (fun m ok is _ wc => ∃ (e0 : En) (q : Bool), ok = .bool q ∧ is = .bool q ∧ EBox (Rr + 1) e0 wc ∧ EBox (Rr + 1 + 1) e0 wc ∧ Play w hb (j + 1) m wc)
          case rest =>
            obtain ⟨e0, q0, rfl, rfl, X1, X2, P⟩ := hcut
            obtain ⟨vv, ll, hA, hR, hl5, hD⟩ := P.at_
            obtain ⟨p5, cc, rfl, hlc5, -⟩ := hD.at_
            have hds : (srt ll).length = ll.length := srt_length ll
            rw [hds] at hlc5 ⊢
            obtain ⟨nn, hnn⟩ : ∃ nn, ll.length = nn := ⟨_, rfl⟩
            have LN := fun W (h : Below wc.heap.size wc W) => len_any W w.heap.size hb vv ll (hA.next h)
            have LI := fun W (h : Below wc.heap.size wc W) => list_any W w.heap.size hb vv ll (by omega) (hA.next h)
            have ST := fun v W (h : Lists W v ll) => stands_any ll (by omega) hR v W h
            have OF := of_any e0
            unfold entV at OF
            unfold IsCopied at LI
            rw [hnn] at LN LI hlc5 ⊢
            rw [hds, hnn] at P
            have HP := Lib.hid P
            have HNN := Lib.hid hnn
            have HX1 := Lib.hid X1
            have HX2 := Lib.hid X2
            clear hA hR hl5 hD hds hnn X1 X2 P HM HN HR HQ HNL HE2
            go_wp2
            have ok : (planR hb nn cc p5 e0 q0).ok = true := rfl
            refine region_inv (Inv := fun lq_ aq_ wr => ∃ (e : Nat → Bool) (t : Nat → Value), lq_ = #[e 0, e 1, e 2, e 3, e 4, e 5, e 6, e 7, e 8, e 9, e 10, e 11, e 12, e 13, e 14, e 15, e 16, e 17, e 18, e 19, e 20, e 21, e 22, e 23, e 24, e 25, e 26, e 27, e 28] ∧ aq_ = ⟨#[.slice a len cap, .slice (some ⟨b, off, none⟩) len2 cap2, undef, undef, u4, .pointer (some ⟨hb, 0, none⟩), .slice p5 nn cc, undef, u8, undef, .pointer (some ⟨Rr, 0, none⟩), .pointer (some ⟨Rr + 1, 0, none⟩), .bool q0, .pointer (some ⟨Rr + 1 + 1, 0, none⟩), .bool q0, u15, .slice a len cap, va, .pointer (some ⟨hb, 0, none⟩), .slice a len cap, .slice a len cap, .int .i64 (len : Int), .int .i64 (min (len : Int) 40), .slice a k cap, .int .i64 (k : Int), .int .i64 (k : Int), .bool false, u27, u28, u29, u30, u31, u32, .pointer (some ⟨hb, 0, none⟩), .bool false, .bool false, .bool true, .bool false, .bool false, .slice (some ⟨b, off, none⟩) len2 cap2, .slice (some ⟨b, off, none⟩) len2 cap2, .int .i64 (len2 : Int), .int .i64 (min (len2 : Int) 60), .slice (some ⟨b, off, none⟩) K cap2, .int .i64 (K : Int), .int .i64 (j : Int), u46, u47, u48, u49, u50, u51, u52, u53, u54, u55, u56, u57, u58, u59, u60, u61, u62, u63, u64, u65, u66, u67, u68, u69, u70, u71, u72, u73, u74, u75, u76, u77, u78, u79, u80, u81, u82, u83, u84, u85, u86, u87, u88, u89, u90, u91, u92, u93, u94, u95, u96, u97, u98, u99, u100, u101, u102, u103, u104, u105, u106, u107, u108, u109, u110, u111, u112, u113, u114, u115, t 116, t 117, t 118, t 119, t 120, t 121, t 122, t 123, t 124, t 125, t 126, t 127, t 128, t 129, t 130, t 131, t 132, t 133, t 134, t 135, t 136, t 137, t 138, t 139, t 140, t 141, t 142, t 143, t 144, u145], []⟩ ∧ Vals (planR hb nn cc p5 e0 q0) e t ∧ MPl wc ll (e 25) (t 141) wr) (by kernel_rfl) ?step ?start ?done
            case start => exact ⟨fun _ => false, fun j => if j = 116 then u116 else if j = 117 then u117 else if j = 118 then u118 else if j = 119 then u119 else if j = 120 then u120 else if j = 121 then u121 else if j = 122 then u122 else if j = 123 then u123 else if j = 124 then u124 else if j = 125 then u125 else if j = 126 then u126 else if j = 127 then u127 else if j = 128 then u128 else if j = 129 then u129 else if j = 130 then u130 else if j = 131 then u131 else if j = 132 then u132 else if j = 133 then u133 else if j = 134 then u134 else if j = 135 then u135 else if j = 136 then u136 else if j = 137 then u137 else if j = 138 then u138 else if j = 139 then u139 else if j = 140 then u140 else if j = 141 then u141 else if j = 142 then u142 else if j = 143 then u143 else if j = 144 then u144 else undef, rfl, rfl, Vals.start _ _, ⟨(Below.refl _ _).drew, (fun h => by cases h)⟩⟩
            case step =>
              rintro lq_ aq_ wr ⟨e, t, rfl, rfl, hs, hm⟩ q_ o ho hi ha
              match q_, ho, hi, ha with
              | 0, ho, hi, ha =>
                obtain rfl : _ = o := Option.some.inj ho
                have hi : e 0 = false := hi
                obtain ⟨c0, c1, c2, c3, cz⟩ := HX1.out.next hm.be
                refine wpOp_step (i := 0) rfl (fun K hK => ?_)
                have HK : Shut (∀ a w, _ → K a w) := hK
                clear hK ho
                have HS := Lib.hid hs
                have HM := Lib.hid hm
                have HI := Lib.hid hi
                clear hs ha hm hi
                go_simp
                exact HK.out _ _ ⟨upd e 0 true, upd t 116 _, rfl, rfl, by exact HS.out.put ok (i := 0) rfl, HM.out⟩
              | 1, ho, hi, ha =>
                obtain rfl : _ = o := Option.some.inj ho
                have hi : e 1 = false := hi
                obtain ⟨c0, c1, c2, c3, cz⟩ := HX2.out.next hm.be
                refine wpOp_step (i := 1) rfl (fun K hK => ?_)
                have HK : Shut (∀ a w, _ → K a w) := hK
                clear hK ho
                have HS := Lib.hid hs
                have HM := Lib.hid hm
                have HI := Lib.hid hi
                clear hs ha hm hi
                go_simp
                exact HK.out _ _ ⟨upd e 1 true, upd t 117 _, rfl, rfl, by exact HS.out.put ok (i := 1) rfl, HM.out⟩
              | 2, ho, hi, ha =>
                obtain rfl : _ = o := Option.some.inj ho
                have hi : e 2 = false := hi
                have T1 : t 117 = .agg #[.int .i64 e0.b, .int .i64 e0.d, .int .i64 e0.s, .int .i64 e0.i] := hs.val 1 rfl (ha { on := 1, ground := .data } (by simp) rfl)
                have H1 := Lib.hid T1
                refine wpOp_step (i := 2) rfl (fun K hK => ?_)
                have HK : Shut (∀ a w, _ → K a w) := hK
                clear hK ho
                have HS := Lib.hid hs
                have HM := Lib.hid hm
                have HI := Lib.hid hi
                clear hs ha hm hi
                go_simp
                (with_reducible refine (OF _).mono ?_)
                rintro e' w' ⟨rfl, m⟩
                go_wp2_with fail
                exact HK.out _ _ ⟨upd e 2 true, upd (upd t 117 _) 118 _, rfl, rfl, by rw [upd_self H1.out]; exact HS.out.put ok (i := 2) rfl, HM.out.next m.below⟩
              | 3, ho, hi, ha =>
                obtain rfl : _ = o := Option.some.inj ho
                have hi : e 3 = false := hi
                have T0 : t 116 = .agg #[.int .i64 e0.b, .int .i64 e0.d, .int .i64 e0.s, .int .i64 e0.i] := hs.val 0 rfl (ha { on := 0, ground := .data } (by simp) rfl)
                have H0 := Lib.hid T0
                have T2 : t 118 = .agg #[.int .i64 e0.b, .int .i64 e0.d, .int .i64 e0.s, .int .i64 e0.i] := hs.val 2 rfl (ha { on := 2, ground := .data } (by simp) rfl)
                have H2 := Lib.hid T2
                refine wpOp_step (i := 3) rfl (fun K hK => ?_)
                have HK : Shut (∀ a w, _ → K a w) := hK
                clear hK ho
                have HS := Lib.hid hs
                have HM := Lib.hid hm
                have HI := Lib.hid hi
                clear hs ha hm hi
                go_simp
                exact HK.out _ _ ⟨upd e 3 true, upd (upd (upd t 116 _) 118 _) 119 _, rfl, rfl, by rw [upd_self H0.out, upd_self H2.out]; exact HS.out.put ok (i := 3) rfl, HM.out⟩
              | 4, ho, hi, ha =>
                obtain rfl : _ = o := Option.some.inj ho
                have hi : e 4 = false := hi
                have T3 : t 119 = .bool false := hs.val 3 rfl (ha { on := 3, ground := .data } (by simp) rfl)
                have H3 := Lib.hid T3
                refine wpOp_step (i := 4) rfl (fun K hK => ?_)
                have HK : Shut (∀ a w, _ → K a w) := hK
                clear hK ho
                have HS := Lib.hid hs
                have HM := Lib.hid hm
                have HI := Lib.hid hi
                clear hs ha hm hi
                go_simp
                exact HK.out _ _ ⟨upd e 4 true, upd (upd t 119 _) 120 _, rfl, rfl, by rw [upd_self H3.out]; exact HS.out.put ok (i := 4) rfl, HM.out⟩
              | 5, ho, hi, ha =>
                obtain rfl : _ = o := Option.some.inj ho
                have hi : e 5 = false := hi
                have T4 : t 120 = .bool false := hs.val 4 rfl (ha { on := 4, ground := .guard } (by simp) rfl)
                have H4 := Lib.hid T4
                refine wpOp_step (i := 5) rfl (fun K hK => ?_)
                have HK : Shut (∀ a w, _ → K a w) := hK
                clear hK ho
                have HS := Lib.hid hs
                have HM := Lib.hid hm
                have HI := Lib.hid hi
                clear hs ha hm hi
                go_simp
                exact HK.out _ _ ⟨upd e 5 true, upd (upd t 120 _) 121 _, rfl, rfl, by rw [upd_self H4.out]; exact HS.out.put ok (i := 5) rfl, HM.out⟩
              | 6, ho, hi, ha =>
                obtain rfl : _ = o := Option.some.inj ho
                have hi : e 6 = false := hi
                have T4 : t 120 = .bool false := hs.val 4 rfl (ha { on := 4, ground := .guard } (by simp) rfl)
                have H4 := Lib.hid T4
                refine wpOp_step (i := 6) rfl (fun K hK => ?_)
                have HK : Shut (∀ a w, _ → K a w) := hK
                clear hK ho
                have HS := Lib.hid hs
                have HM := Lib.hid hm
                have HI := Lib.hid hi
                clear hs ha hm hi
                go_simp
                exact HK.out _ _ ⟨upd e 6 true, upd (upd t 120 _) 122 _, rfl, rfl, by rw [upd_self H4.out]; exact HS.out.put ok (i := 6) rfl, HM.out⟩
              | 7, ho, hi, ha =>
                obtain rfl : _ = o := Option.some.inj ho
                have hi : e 7 = false := hi
                have T4 : t 120 = .bool false := hs.val 4 rfl (ha { on := 4, ground := .guard } (by simp) rfl)
                have H4 := Lib.hid T4
                refine wpOp_step (i := 7) rfl (fun K hK => ?_)
                have HK : Shut (∀ a w, _ → K a w) := hK
                clear hK ho
                have HS := Lib.hid hs
                have HM := Lib.hid hm
                have HI := Lib.hid hi
                clear hs ha hm hi
                go_simp
                exact HK.out _ _ ⟨upd e 7 true, upd (upd t 120 _) 123 _, rfl, rfl, by rw [upd_self H4.out]; exact HS.out.put ok (i := 7) rfl, HM.out⟩
              | 8, ho, hi, ha =>
                obtain rfl : _ = o := Option.some.inj ho
                have hi : e 8 = false := hi
                have T4 : t 120 = .bool false := hs.val 4 rfl (ha { on := 4, ground := .guard } (by simp) rfl)
                have H4 := Lib.hid T4
                refine wpOp_step (i := 8) rfl (fun K hK => ?_)
                have HK : Shut (∀ a w, _ → K a w) := hK
                clear hK ho
                have HS := Lib.hid hs
                have HM := Lib.hid hm
                have HI := Lib.hid hi
                clear hs ha hm hi
                go_simp
                exact HK.out _ _ ⟨upd e 8 true, upd (upd t 120 _) 124 _, rfl, rfl, by rw [upd_self H4.out]; exact HS.out.put ok (i := 8) rfl, HM.out⟩
              | 9, ho, hi, ha =>
                obtain rfl : _ = o := Option.some.inj ho
                have hi : e 9 = false := hi
                have T4 : t 120 = .bool false := hs.val 4 rfl (ha { on := 4, ground := .guard } (by simp) rfl)
                have H4 := Lib.hid T4
                refine wpOp_step (i := 9) rfl (fun K hK => ?_)
                have HK : Shut (∀ a w, _ → K a w) := hK
                clear hK ho
                have HS := Lib.hid hs
                have HM := Lib.hid hm
                have HI := Lib.hid hi
                clear hs ha hm hi
                go_simp
                exact HK.out _ _ ⟨upd e 9 true, upd (upd t 120 _) 125 _, rfl, rfl, by rw [upd_self H4.out]; exact HS.out.put ok (i := 9) rfl, HM.out⟩
              | 10, ho, hi, ha =>
                obtain rfl : _ = o := Option.some.inj ho
                have hi : e 10 = false := hi
                have T4 : t 120 = .bool false := hs.val 4 rfl (ha { on := 4, ground := .data } (by simp) rfl)
                have H4 := Lib.hid T4
                refine wpOp_step (i := 10) rfl (fun K hK => ?_)
                have HK : Shut (∀ a w, _ → K a w) := hK
                clear hK ho
                have HS := Lib.hid hs
                have HM := Lib.hid hm
                have HI := Lib.hid hi
                clear hs ha hm hi
                go_simp
                exact HK.out _ _ ⟨upd e 10 true, upd (upd t 120 _) 126 _, rfl, rfl, by rw [upd_self H4.out]; exact HS.out.put ok (i := 10) rfl, HM.out⟩
              | 11, ho, hi, ha =>
                obtain rfl : _ = o := Option.some.inj ho
                have hi : e 11 = false := hi
                have T10 : t 126 = .bool false := hs.val 10 rfl (ha { on := 10, ground := .data } (by simp) rfl)
                have H10 := Lib.hid T10
                refine wpOp_step (i := 11) rfl (fun K hK => ?_)
                have HK : Shut (∀ a w, _ → K a w) := hK
                clear hK ho
                have HS := Lib.hid hs
                have HM := Lib.hid hm
                have HI := Lib.hid hi
                clear hs ha hm hi
                go_simp
                exact HK.out _ _ ⟨upd e 11 true, upd (upd t 126 _) 127 _, rfl, rfl, by rw [upd_self H10.out]; exact HS.out.put ok (i := 11) rfl, HM.out⟩
              | 12, ho, hi, ha =>
                obtain rfl : _ = o := Option.some.inj ho
                have hi : e 12 = false := hi
                have T11 : t 127 = .bool false := hs.val 11 rfl (ha { on := 11, ground := .guard } (by simp) rfl)
                have H11 := Lib.hid T11
                refine wpOp_step (i := 12) rfl (fun K hK => ?_)
                have HK : Shut (∀ a w, _ → K a w) := hK
                clear hK ho
                have HS := Lib.hid hs
                have HM := Lib.hid hm
                have HI := Lib.hid hi
                clear hs ha hm hi
                go_simp
                exact HK.out _ _ ⟨upd e 12 true, upd (upd t 127 _) 128 _, rfl, rfl, by rw [upd_self H11.out]; exact HS.out.put ok (i := 12) rfl, HM.out⟩
              | 13, ho, hi, ha =>
                obtain rfl : _ = o := Option.some.inj ho
                have hi : e 13 = false := hi
                have T11 : t 127 = .bool false := hs.val 11 rfl (ha { on := 11, ground := .guard } (by simp) rfl)
                have H11 := Lib.hid T11
                refine wpOp_step (i := 13) rfl (fun K hK => ?_)
                have HK : Shut (∀ a w, _ → K a w) := hK
                clear hK ho
                have HS := Lib.hid hs
                have HM := Lib.hid hm
                have HI := Lib.hid hi
                clear hs ha hm hi
                go_simp
                exact HK.out _ _ ⟨upd e 13 true, upd (upd t 127 _) 129 _, rfl, rfl, by rw [upd_self H11.out]; exact HS.out.put ok (i := 13) rfl, HM.out⟩
              | 14, ho, hi, ha =>
                obtain rfl : _ = o := Option.some.inj ho
                have hi : e 14 = false := hi
                have T11 : t 127 = .bool false := hs.val 11 rfl (ha { on := 11, ground := .guard } (by simp) rfl)
                have H11 := Lib.hid T11
                have T12 : t 128 = .bool q0 := hs.val 12 rfl (ha { on := 12, ground := .data } (by simp) rfl)
                have H12 := Lib.hid T12
                have T13 : t 129 = .bool q0 := hs.val 13 rfl (ha { on := 13, ground := .data } (by simp) rfl)
                have H13 := Lib.hid T13
                refine wpOp_step (i := 14) rfl (fun K hK => ?_)
                have HK : Shut (∀ a w, _ → K a w) := hK
                clear hK ho
                have HS := Lib.hid hs
                have HM := Lib.hid hm
                have HI := Lib.hid hi
                clear hs ha hm hi
                go_simp
                exact HK.out _ _ ⟨upd e 14 true, upd (upd (upd (upd t 127 _) 128 _) 129 _) 130 _, rfl, rfl, by rw [upd_self H11.out, upd_self H12.out, upd_self H13.out]; exact HS.out.put ok (i := 14) rfl, HM.out⟩
              | 15, ho, hi, ha =>
                obtain rfl : _ = o := Option.some.inj ho
                have hi : e 15 = false := hi
                have T11 : t 127 = .bool false := hs.val 11 rfl (ha { on := 11, ground := .data } (by simp) rfl)
                have H11 := Lib.hid T11
                have T14 : t 130 = .bool false := hs.val 14 rfl (ha { on := 14, ground := .data } (by simp) rfl)
                have H14 := Lib.hid T14
                refine wpOp_step (i := 15) rfl (fun K hK => ?_)
                have HK : Shut (∀ a w, _ → K a w) := hK
                clear hK ho
                have HS := Lib.hid hs
                have HM := Lib.hid hm
                have HI := Lib.hid hi
                clear hs ha hm hi
                go_simp
                exact HK.out _ _ ⟨upd e 15 true, upd (upd (upd t 127 _) 130 _) 131 _, rfl, rfl, by rw [upd_self H11.out, upd_self H14.out]; exact HS.out.put ok (i := 15) rfl, HM.out⟩
              | 16, ho, hi, ha =>
                obtain rfl : _ = o := Option.some.inj ho
                have hi : e 16 = false := hi
                have T15 : t 131 = .bool false := hs.val 15 rfl (ha { on := 15, ground := .data } (by simp) rfl)
                have H15 := Lib.hid T15
                refine wpOp_step (i := 16) rfl (fun K hK => ?_)
                have HK : Shut (∀ a w, _ → K a w) := hK
                clear hK ho
                have HS := Lib.hid hs
                have HM := Lib.hid hm
                have HI := Lib.hid hi
                clear hs ha hm hi
                go_simp
                exact HK.out _ _ ⟨upd e 16 true, upd (upd t 131 _) 132 _, rfl, rfl, by rw [upd_self H15.out]; exact HS.out.put ok (i := 16) rfl, HM.out⟩
              | 17, ho, hi, ha =>
                obtain rfl : _ = o := Option.some.inj ho
                have hi : e 17 = false := hi
                have T16 : t 132 = .bool false := hs.val 16 rfl (ha { on := 16, ground := .guard } (by simp) rfl)
                have H16 := Lib.hid T16
                refine wpOp_step (i := 17) rfl (fun K hK => ?_)
                have HK : Shut (∀ a w, _ → K a w) := hK
                clear hK ho
                have HS := Lib.hid hs
                have HM := Lib.hid hm
                have HI := Lib.hid hi
                clear hs ha hm hi
                go_simp
                exact HK.out _ _ ⟨upd e 17 true, upd (upd t 132 _) 133 _, rfl, rfl, by rw [upd_self H16.out]; exact HS.out.put ok (i := 17) rfl, HM.out⟩
              | 18, ho, hi, ha =>
                obtain rfl : _ = o := Option.some.inj ho
                have hi : e 18 = false := hi
                have T16 : t 132 = .bool false := hs.val 16 rfl (ha { on := 16, ground := .guard } (by simp) rfl)
                have H16 := Lib.hid T16
                have T17 : t 133 = .pointer (some ⟨hb, 0, none⟩) := hs.val 17 rfl (ha { on := 17, ground := .data } (by simp) rfl)
                have H17 := Lib.hid T17
                have LN1 := LN _ hm.be
                refine wpOp_step (i := 18) rfl (fun K hK => ?_)
                have HK : Shut (∀ a w, _ → K a w) := hK
                clear hK ho
                have HS := Lib.hid hs
                have HM := Lib.hid hm
                have HI := Lib.hid hi
                clear hs ha hm hi
                go_simp
                (with_reducible refine (LN1).mono ?_)
                rintro e' w' ⟨rfl, rfl⟩
                go_wp2_with fail
                exact HK.out _ _ ⟨upd e 18 true, upd (upd (upd t 132 _) 133 _) 134 _, rfl, rfl, by rw [upd_self H16.out, upd_self H17.out]; exact HS.out.put ok (i := 18) rfl, HM.out⟩
              | 19, ho, hi, ha =>
                obtain rfl : _ = o := Option.some.inj ho
                have hi : e 19 = false := hi
                have T16 : t 132 = .bool false := hs.val 16 rfl (ha { on := 16, ground := .guard } (by simp) rfl)
                have H16 := Lib.hid T16
                refine wpOp_step (i := 19) rfl (fun K hK => ?_)
                have HK : Shut (∀ a w, _ → K a w) := hK
                clear hK ho
                have HS := Lib.hid hs
                have HM := Lib.hid hm
                have HI := Lib.hid hi
                clear hs ha hm hi
                go_simp
                exact HK.out _ _ ⟨upd e 19 true, upd (upd t 132 _) 135 _, rfl, rfl, by rw [upd_self H16.out]; exact HS.out.put ok (i := 19) rfl, HM.out⟩
              | 20, ho, hi, ha =>
                obtain rfl : _ = o := Option.some.inj ho
                have hi : e 20 = false := hi
                have T16 : t 132 = .bool false := hs.val 16 rfl (ha { on := 16, ground := .guard } (by simp) rfl)
                have H16 := Lib.hid T16
                have T19 : t 135 = .slice p5 nn cc := hs.val 19 rfl (ha { on := 19, ground := .data } (by simp) rfl)
                have H19 := Lib.hid T19
                refine wpOp_step (i := 20) rfl (fun K hK => ?_)
                have HK : Shut (∀ a w, _ → K a w) := hK
                clear hK ho
                have HS := Lib.hid hs
                have HM := Lib.hid hm
                have HI := Lib.hid hi
                clear hs ha hm hi
                go_simp
                exact HK.out _ _ ⟨upd e 20 true, upd (upd (upd t 132 _) 135 _) 136 _, rfl, rfl, by rw [upd_self H16.out, upd_self H19.out]; exact HS.out.put ok (i := 20) rfl, HM.out⟩
              | 21, ho, hi, ha =>
                obtain rfl : _ = o := Option.some.inj ho
                have hi : e 21 = false := hi
                have T16 : t 132 = .bool false := hs.val 16 rfl (ha { on := 16, ground := .guard } (by simp) rfl)
                have H16 := Lib.hid T16
                have T18 : t 134 = .int .i64 (nn : Int) := hs.val 18 rfl (ha { on := 18, ground := .data } (by simp) rfl)
                have H18 := Lib.hid T18
                have T20 : t 136 = .int .i64 (nn : Int) := hs.val 20 rfl (ha { on := 20, ground := .data } (by simp) rfl)
                have H20 := Lib.hid T20
                refine wpOp_step (i := 21) rfl (fun K hK => ?_)
                have HK : Shut (∀ a w, _ → K a w) := hK
                clear hK ho
                have HS := Lib.hid hs
                have HM := Lib.hid hm
                have HI := Lib.hid hi
                clear hs ha hm hi
                go_simp
                exact HK.out _ _ ⟨upd e 21 true, upd (upd (upd (upd t 132 _) 134 _) 136 _) 137 _, rfl, rfl, by rw [upd_self H16.out, upd_self H18.out, upd_self H20.out]; exact HS.out.put ok (i := 21) rfl, HM.out⟩
              | 22, ho, hi, ha =>
                obtain rfl : _ = o := Option.some.inj ho
                have hi : e 22 = false := hi
                have T16 : t 132 = .bool false := hs.val 16 rfl (ha { on := 16, ground := .data } (by simp) rfl)
                have H16 := Lib.hid T16
                have T21 : t 137 = .bool false := hs.val 21 rfl (ha { on := 21, ground := .data } (by simp) rfl)
                have H21 := Lib.hid T21
                refine wpOp_step (i := 22) rfl (fun K hK => ?_)
                have HK : Shut (∀ a w, _ → K a w) := hK
                clear hK ho
                have HS := Lib.hid hs
                have HM := Lib.hid hm
                have HI := Lib.hid hi
                clear hs ha hm hi
                go_simp
                exact HK.out _ _ ⟨upd e 22 true, upd (upd (upd t 132 _) 137 _) 138 _, rfl, rfl, by rw [upd_self H16.out, upd_self H21.out]; exact HS.out.put ok (i := 22) rfl, HM.out⟩
              | 23, ho, hi, ha =>
                obtain rfl : _ = o := Option.some.inj ho
                have hi : e 23 = false := hi
                have T22 : t 138 = .bool false := hs.val 22 rfl (ha { on := 22, ground := .data } (by simp) rfl)
                have H22 := Lib.hid T22
                refine wpOp_step (i := 23) rfl (fun K hK => ?_)
                have HK : Shut (∀ a w, _ → K a w) := hK
                clear hK ho
                have HS := Lib.hid hs
                have HM := Lib.hid hm
                have HI := Lib.hid hi
                clear hs ha hm hi
                go_simp
                exact HK.out _ _ ⟨upd e 23 true, upd (upd t 138 _) 139 _, rfl, rfl, by rw [upd_self H22.out]; exact HS.out.put ok (i := 23) rfl, HM.out⟩
              | 24, ho, hi, ha =>
                obtain rfl : _ = o := Option.some.inj ho
                have hi : e 24 = false := hi
                have T23 : t 139 = .bool false := hs.val 23 rfl (ha { on := 23, ground := .guard } (by simp) rfl)
                have H23 := Lib.hid T23
                refine wpOp_step (i := 24) rfl (fun K hK => ?_)
                have HK : Shut (∀ a w, _ → K a w) := hK
                clear hK ho
                have HS := Lib.hid hs
                have HM := Lib.hid hm
                have HI := Lib.hid hi
                clear hs ha hm hi
                go_simp
                exact HK.out _ _ ⟨upd e 24 true, upd (upd t 139 _) 140 _, rfl, rfl, by rw [upd_self H23.out]; exact HS.out.put ok (i := 24) rfl, HM.out⟩
              | 25, ho, hi, ha =>
                obtain rfl : _ = o := Option.some.inj ho
                have hi : e 25 = false := hi
                have T23 : t 139 = .bool false := hs.val 23 rfl (ha { on := 23, ground := .guard } (by simp) rfl)
                have H23 := Lib.hid T23
                have T24 : t 140 = .pointer (some ⟨hb, 0, none⟩) := hs.val 24 rfl (ha { on := 24, ground := .data } (by simp) rfl)
                have H24 := Lib.hid T24
                have LI1 := LI _ hm.be
                refine wpOp_step (i := 25) rfl (fun K hK => ?_)
                have HK : Shut (∀ a w, _ → K a w) := hK
                clear hK ho
                have HS := Lib.hid hs
                have HM := Lib.hid hm
                have HI := Lib.hid hi
                clear hs ha hm hi
                go_simp
                (with_reducible refine (LI1).mono ?_)
                rintro e' w' ⟨rfl, hg, bb⟩
                go_wp2_with fail
                exact HK.out _ _ ⟨upd e 25 true, upd (upd (upd t 139 _) 140 _) 141 _, rfl, rfl, by rw [upd_self H23.out, upd_self H24.out]; exact HS.out.skip' (i := 25) rfl rfl, ⟨HM.out.be.trans (bb.mono HM.out.be.size), fun _ => .inr ⟨_, _, by rw [HNN.out]; rfl, listAt_block hg rfl⟩⟩⟩
              | 26, ho, hi, ha =>
                obtain rfl : _ = o := Option.some.inj ho
                have hi : e 26 = false := hi
                have T23 : t 139 = .bool false := hs.val 23 rfl (ha { on := 23, ground := .guard } (by simp) rfl)
                have H23 := Lib.hid T23
                have h25 : e 25 = true := ha { on := 25, ground := .data } (by simp) rfl
                have ST1 := ST _ _ (hm.li h25)
                refine wpOp_step (i := 26) rfl (fun K hK => ?_)
                have HK : Shut (∀ a w, _ → K a w) := hK
                clear hK ho
                have HS := Lib.hid hs
                have HM := Lib.hid hm
                have HI := Lib.hid hi
                clear hs ha hm hi
                go_simp
                (with_reducible refine (ST1).mono ?_)
                rintro e' w' ⟨rfl, m⟩
                go_wp2_with fail
                exact HK.out _ _ ⟨upd e 26 true, upd (upd t 139 _) 142 _, rfl, rfl, by rw [upd_self H23.out]; exact HS.out.put ok (i := 26) rfl, HM.out.next m⟩
              | 27, ho, hi, ha =>
                obtain rfl : _ = o := Option.some.inj ho
                have hi : e 27 = false := hi
                have T23 : t 139 = .bool false := hs.val 23 rfl (ha { on := 23, ground := .guard } (by simp) rfl)
                have H23 := Lib.hid T23
                have T26 : t 142 = .bool true := hs.val 26 rfl (ha { on := 26, ground := .data } (by simp) rfl)
                have H26 := Lib.hid T26
                refine wpOp_step (i := 27) rfl (fun K hK => ?_)
                have HK : Shut (∀ a w, _ → K a w) := hK
                clear hK ho
                have HS := Lib.hid hs
                have HM := Lib.hid hm
                have HI := Lib.hid hi
                clear hs ha hm hi
                go_simp
                exact HK.out _ _ ⟨upd e 27 true, upd (upd (upd t 139 _) 142 _) 143 _, rfl, rfl, by rw [upd_self H23.out, upd_self H26.out]; exact HS.out.put ok (i := 27) rfl, HM.out⟩
              | 28, ho, hi, ha =>
                obtain rfl : _ = o := Option.some.inj ho
                have hi : e 28 = false := hi
                have T23 : t 139 = .bool false := hs.val 23 rfl (ha { on := 23, ground := .data } (by simp) rfl)
                have H23 := Lib.hid T23
                have T27 : t 143 = .bool false := hs.val 27 rfl (ha { on := 27, ground := .data } (by simp) rfl)
                have H27 := Lib.hid T27
                refine wpOp_step (i := 28) rfl (fun K hK => ?_)
                have HK : Shut (∀ a w, _ → K a w) := hK
                clear hK ho
                have HS := Lib.hid hs
                have HM := Lib.hid hm
                have HI := Lib.hid hi
                clear hs ha hm hi
                go_simp
                exact HK.out _ _ ⟨upd e 28 true, upd (upd (upd t 139 _) 143 _) 144 _, rfl, rfl, by rw [upd_self H23.out, upd_self H27.out]; exact HS.out.put ok (i := 28) rfl, HM.out⟩
              | k + 29, ho, hi, ha => simp at ho
            case done =>
              rintro lq_ aq_ wr ⟨e, t, rfl, rfl, hs, hm⟩ hr
              have hd := ready_done hr rfl (by decide +kernel)
              have e28 : e 28 = true := hd 28 (by decide)
              have v144 : t 144 = .bool false := hs.val 28 rfl e28
              have P6 := Lib.hid (HP.out.next hm.be)
              rw [v144]
              generalize t 116 = u116, t 117 = u117, t 118 = u118, t 119 = u119, t 120 = u120, t 121 = u121, t 122 = u122, t 123 = u123, t 124 = u124, t 125 = u125, t 126 = u126, t 127 = u127, t 128 = u128, t 129 = u129, t 130 = u130, t 131 = u131, t 132 = u132, t 133 = u133, t 134 = u134, t 135 = u135, t 136 = u136, t 137 = u137, t 138 = u138, t 139 = u139, t 140 = u140, t 141 = u141, t 142 = u142, t 143 = u143
              clear hs hd hr hm e28 v144 HP HX1 HX2 LN LI ST OF
              go_wp2
              go_roundw
              case rel => exact ⟨j + 1, by omega, by go_num, P6.out⟩
              case measure => simp [intOf]; omega
          case first =>
            have key : (max 0 d) % 5 = 0 ∨ (max 0 d) % 5 = 1 ∨ (max 0 d) % 5 = 2 ∨ (max 0 d) % 5 = 3 ∨ (max 0 d) % 5 = 4 := by omega
            rcases key with h0 | h0 | h0 | h0 | h0
            · rw [h0] at ht ⊢
              obtain ⟨a0, a1, a2, a3, a4⟩ := HN.out.cells
              have OF := of_any x W0
              unfold entV at OF
              go_wp2_with fail
              with_reducible refine OF.mono ?_
              rintro e w2 ⟨rfl, m2⟩
              have M2 := HM.out.next m2.below
              have N2 := HN.out.next m2.below
              have PU := push_any l (by rw [HNL.out]; exact hl2) w.heap.size hb v x w2 M2.ha HR.out
              unfold entV at PU
              have HM2 := Lib.hid M2
              have HN2 := Lib.hid N2
              clear OF m2 M2 N2 HM HN a0 a1 a2 a3 a4
              go_wp2_with fail
              with_reducible refine PU.mono ?_
              rintro e w3 ⟨v3, l3, rfl, ha3, o3, r3, p3, q3⟩
              have M3 := HM2.out.off o3 ha3 q3
              obtain ⟨a0, a1, a2, a3, a4⟩ := (HN2.out.off HM2.out o3).cells
              have RP := rpush_any x (srt l) (by rw [srt_length, HNL.out]; omega) _ w3 M3.dl
              unfold IsPut entV at RP
              have hS : insE x (srt l) = srt l3 := by rw [insE_eq]; exact srt_perm_eq ((List.perm_append_comm (l₁ := [x]) (l₂ := l)).trans p3.symm)
              have hl3 : l3.length = n + 1 := by rw [p3.length_eq]; simp [HNL.out]
              rw [hS, srt_length, hl3] at RP
              have HM3 := Lib.hid M3
              have HR3 := Lib.hid r3
              have HL3 := Lib.hid hl3
              clear PU ha3 o3 r3 p3 q3 M3 hS HM2 HN2 hl3
              go_wp2_with fail
              with_reducible refine RP.mono ?_
              rintro e w4 ⟨v4, rfl, own4, b4⟩
              have M4 := HM3.out.next b4
              have P4 : Hid (Play w hb (j + 1) v4 w4) := ⟨⟨v3, l3, M4.ha, HR3.out, by rw [HL3.out]; omega, docL_own own4 (by rw [srt_length, HL3.out])⟩, M4.be⟩
              have E1 := Lib.hid (ebox_of M4.b1)
              have E2 := Lib.hid (ebox_of M4.b2)
              clear RP own4 b4 M4 HM3 HR3 HL3
              go_wp2_with fail
              go_meet
              exact ⟨zeroE, false, rfl, rfl, E1.out, E2.out, P4.out⟩
            · rw [h0] at ht ⊢
              have PM := mpopMin (by rw [HNL.out]; omega) HM.out HR.out
              unfold MPops entV at PM
              rw [HQ.out] at PM
              go_wp2_with fail
              with_reducible refine PM.mono ?_
              rintro e w3 ⟨x1, v3, l3, rfl, M3, r3, hpo⟩
              obtain ⟨f0, f1, f2, f3, f4, f5, f6, f7, f8⟩ := cells4 M3.b1
              have M4 := M3.store1 x1
              have RP := rpop_both hpo (by rw [HNL.out]; omega) _ _ M4.dl
              unfold IsOut entV at RP
              have HM4 := Lib.hid M4
              have HPO := Lib.hid hpo
              have HR3 := Lib.hid r3
              clear PM M3 M4 hpo HM HN r3
              go_wp2_with fail
              with_reducible refine RP.mono ?_
              rintro e w5 ⟨m5, rfl, d5, b5, q5⟩
              have M5 := HM4.out.next b5
              obtain ⟨g0, g1, g2, g3, g4, g5, g6, g7, g8⟩ := cells4 M5.b2
              have M6 := (M5.doc d5 (fun h0 q e => M5.nm (HPO.out.le.2 h0) q (q5 q e))).store2 x1
              have hlen := HPO.out.le.1
              have P6 : Hid (Play w hb (j + 1) _ _) := M6.play (k := j + 1) HR3.out (by rw [HNL.out] at hlen; omega) rfl
              clear hlen
              have E1 := Lib.hid (ebox_of M6.b1)
              have E2 := Lib.hid (ebox_of M6.b2)
              clear RP M5 M6 d5 b5 q5 HM4 HPO
              go_wp2_with fail
              go_meet
              exact ⟨x1, q, rfl, rfl, E1.out, E2.out, P6.out⟩
            · rw [h0] at ht ⊢
              have PM := mpopMax (by rw [HNL.out]; omega) HM.out HR.out
              unfold MPops entV at PM
              rw [HQ.out] at PM
              go_wp2_with fail
              with_reducible refine PM.mono ?_
              rintro e w3 ⟨x1, v3, l3, rfl, M3, r3, hpo⟩
              obtain ⟨f0, f1, f2, f3, f4, f5, f6, f7, f8⟩ := cells4 M3.b1
              have M4 := M3.store1 x1
              have RP := rpop_both hpo (by rw [HNL.out]; omega) _ _ M4.dl
              unfold IsOut entV at RP
              have HM4 := Lib.hid M4
              have HPO := Lib.hid hpo
              have HR3 := Lib.hid r3
              clear PM M3 M4 hpo HM HN r3
              go_wp2_with fail
              with_reducible refine RP.mono ?_
              rintro e w5 ⟨m5, rfl, d5, b5, q5⟩
              have M5 := HM4.out.next b5
              obtain ⟨g0, g1, g2, g3, g4, g5, g6, g7, g8⟩ := cells4 M5.b2
              have M6 := (M5.doc d5 (fun h0 q e => M5.nm (HPO.out.le.2 h0) q (q5 q e))).store2 x1
              have hlen := HPO.out.le.1
              have P6 : Hid (Play w hb (j + 1) _ _) := M6.play (k := j + 1) HR3.out (by rw [HNL.out] at hlen; omega) rfl
              clear hlen
              have E1 := Lib.hid (ebox_of M6.b1)
              have E2 := Lib.hid (ebox_of M6.b2)
              clear RP M5 M6 d5 b5 q5 HM4 HPO
              go_wp2_with fail
              go_meet
              exact ⟨x1, q, rfl, rfl, E1.out, E2.out, P6.out⟩
            · rw [h0] at ht ⊢
              have PM := mmin (by rw [HNL.out]; omega) HM.out HR.out
              unfold MTells entV at PM
              rw [HQ.out] at PM
              go_wp2_with fail
              with_reducible refine PM.mono ?_
              rintro e w3 ⟨x1, l3, rfl, M3, hpo⟩
              obtain ⟨f0, f1, f2, f3, f4, f5, f6, f7, f8⟩ := cells4 M3.b1
              have M4 := M3.store1 x1
              have RP := rpop_both hpo (by rw [HNL.out]; omega) _ _ M4.dl
              unfold IsOut entV at RP
              have HM4 := Lib.hid M4
              have HPO := Lib.hid hpo
              clear PM M3 M4 hpo HM HN
              go_wp2_with fail
              with_reducible refine RP.mono ?_
              rintro e w5 ⟨m5, rfl, d5, b5, q5⟩
              have M5 := HM4.out.next b5
              obtain ⟨g0, g1, g2, g3, g4, g5, g6, g7, g8⟩ := cells4 M5.b2
              have M6 := M5.store2 x1
              have P6 : Hid (Play w hb (j + 1) _ _) := M6.play (k := j + 1) HR.out (by rw [HNL.out]; omega) rfl
              have E1 := Lib.hid (ebox_of M6.b1)
              have E2 := Lib.hid (ebox_of M6.b2)
              clear RP M5 M6 d5 b5 q5 HM4 HPO
              go_wp2_with fail
              go_meet
              exact ⟨x1, q, rfl, rfl, E1.out, E2.out, P6.out⟩
            · rw [h0] at ht ⊢
              have PM := mmax (by rw [HNL.out]; omega) HM.out HR.out
              unfold MTells entV at PM
              rw [HQ.out] at PM
              go_wp2_with fail
              with_reducible refine PM.mono ?_
              rintro e w3 ⟨x1, l3, rfl, M3, hpo⟩
              obtain ⟨f0, f1, f2, f3, f4, f5, f6, f7, f8⟩ := cells4 M3.b1
              have M4 := M3.store1 x1
              have RP := rpop_both hpo (by rw [HNL.out]; omega) _ _ M4.dl
              unfold IsOut entV at RP
              have HM4 := Lib.hid M4
              have HPO := Lib.hid hpo
              clear PM M3 M4 hpo HM HN
              go_wp2_with fail
              with_reducible refine RP.mono ?_
              rintro e w5 ⟨m5, rfl, d5, b5, q5⟩
              have M5 := HM4.out.next b5
              obtain ⟨g0, g1, g2, g3, g4, g5, g6, g7, g8⟩ := cells4 M5.b2
              have M6 := M5.store2 x1
              have P6 : Hid (Play w hb (j + 1) _ _) := M6.play (k := j + 1) HR.out (by rw [HNL.out]; omega) rfl
              have E1 := Lib.hid (ebox_of M6.b1)
              have E2 := Lib.hid (ebox_of M6.b2)
              clear RP M5 M6 d5 b5 q5 HM4 HPO
              go_wp2_with fail
              go_meet
              exact ⟨x1, q, rfl, rfl, E1.out, E2.out, P6.out⟩
        · have HBE := Lib.hid hP.be
          clear hP
          go_wp2
          go_ret
          exact ⟨rfl, HBE.out⟩
/-! ### the row -/
open Go.ChangeShapes Go.WideShapes Go.ChangeAt
set_option maxRecDepth 100000 in
theorem lifted (os : Os) (started : os.Started) (H : Type) (enc : TypeId × Value → H) :
    ReturnsInHanded {} Try.checked os 3 .any (Rows.iheapPlaysSpec.pre6 enc Try.prog Try.f3 Rows.iheapPlaysRow.domain false) (Rows.iheapPlaysSpec.post enc Try.prog Try.f3 false true false false) := by
  refine returnsInHanded_of_change (C := Try.checked) own started (by kernel_rfl) Try.func3
    (ChangeSpec.witness6 (enc := enc) (C := Try.checked) false ⟨#[], #[.slice none 0 0, .slice none 0 0], []⟩ 8 (by kernel_rfl) (by kernel_rfl) (by kernel_rfl) (by kernel_rfl)) ?_
  intro W base args ds gs before hval0 hW hcnd _
  have hval : ∀ (j : Nat) t v, Try.f3.params[j]? = some t → args[j]? = some v → Value.okWide Try.prog W .any base t v := hval0
  have hW' := hW
  obtain ⟨p, q, hA0, hV, rfl, hfz, hnd⟩ := hW
  have hA : DataW.TrodAll enc Try.prog W 0 (fun _ => true) true Try.f3.params.toList args.toList ds p := hA0
  rw [Try.params3] at hA hval
  obtain ⟨v0, vs0, d0, ds0, p0, q0, hargs, rfl, rfl, h0, r0⟩ := trodAll_cons hA
  obtain ⟨v1, vs1, d1, ds1, p1, q1, rfl, rfl, rfl, h1, r1⟩ := trodAll_cons r0
  obtain ⟨rfl, rfl, rfl⟩ := trodAll_nil r1
  obtain rfl : args = #[v0, v1] := by cases args; simp_all
  obtain ⟨rfl, rfl⟩ := trodVars_none hV
  have k0 := h0
  have lt0 : ∀ x ∈ p0, x.block < W.heap.size := by obtain ⟨m, hm⟩ := k0; exact DataW.trod_lt m _ _ _ hm
  obtain ⟨x0, l0, c0, zs0, w0, rfl⟩ := open_ents (hval 0 22 v0 rfl rfl) h0
  have k1 := h1
  have lt1 : ∀ x ∈ p1, x.block < W.heap.size := by obtain ⟨m, hm⟩ := k1; exact DataW.trod_lt m _ _ _ hm
  obtain ⟨x1, l1, c1, zs1, w1, rfl⟩ := open_acts (hval 1 23 v1 rfl rfl) h1
  clear hA0 hval0
  refine (walk x0 l0 c0 zs0 x1 l1 c1 zs1 W w0 w1).mono fun e W' ⟨he, bel⟩ => ?_
  subst he
  exact ⟨_, rfl, _, _, _, [], _, [], hW', trodAll_mk1 (shut_bool Try.underlying4 _), (trodAll_cons_mk (Below.trod laidOut (by kernel_rfl) (of_decide_eq_true (by kernel_rfl)) k0 bel lt0) (trodAll_cons_mk (Below.trod laidOut (by kernel_rfl) (of_decide_eq_true (by kernel_rfl)) k1 bel lt1) trodAll_mk0)), rfl, bel.frame _, fun h => by cases h⟩

theorem over : Rows.iheapPlaysRow.holds Try.pinned (OpenSpec.ofChange Rows.iheapPlaysSpec) :=
  OpenClaim.holds_of_wide 3 Try.f3 rfl rfl rfl rfl rfl rfl rfl ⟨rfl, rfl, rfl, rfl, rfl⟩ rfl rfl rfl rfl rfl (by kernel_rfl) Try.func3 (by kernel_rfl)
    (of_decide_eq_true (by kernel_rfl)) (by unfold Func.isWrapper; first | (rw [if_pos (by decide +kernel)]; kernel_rfl) | (rw [if_neg (by decide +kernel)]; exact ⟨rfl, rfl⟩))
    (fun os started H enc _ => lifted os started H enc)

end Go.Proofs.Ytccjahlpakiadaa.I.iheapPlays
namespace Go.Proofs.Ytccjahlpakiadaa
theorem iheapPlays_holds : Rows.IheapPlaysSaid := I.iheapPlays.over
#print axioms iheapPlays_holds
end Go.Proofs.Ytccjahlpakiadaa
