/-
  IheapLists (layer 6, P6.2): what stands in a heap are its entries, each as often as it was put there, and they stand right: for every slice of entries the law returns true, and the slice reads as it did. No condition.
-/
import Derived.Test.YtccjahlpakiadaaIStands
import Derived.Test.YtccjahlpakiadaaRefPush
import Derived.Test.YtccjahlpakiadaaLawAll
namespace Go.Proofs.Ytccjahlpakiadaa.I.iheapLists
open Go.Proofs.Ytccjahlpakiadaa
set_option maxRecDepth 100000
open Go.RowKit Go.Sort

theorem own_slice {w : World} {B n : Nat} {t : TypeId} {v : Value} {cs : List Value} (h : w.ownsRow B t 4 v n cs) : ∃ p c, v = .slice p n c := by
  rcases h.2 with ⟨rfl, h0⟩ | ⟨g, cap, cur, rfl, _⟩
  · exact ⟨none, 0, by rw [h0]⟩
  · exact ⟨_, _, rfl⟩
theorem own_some {w : World} {B n c : Nat} {t : TypeId} {p : Option Addr} {l : List En} (h : w.ownsRow B t 4 (.slice p n c) n (flatE l)) (h0 : 0 < n) : ∃ g, p = some ⟨g, 0, none⟩ ∧ ListAt w g l := by
  rcases h.2 with ⟨_, e⟩ | ⟨g, cap, cur, e, _⟩
  · omega
  · simp at e
    obtain ⟨rfl, rfl⟩ := e
    exact ⟨g, rfl, own_list h⟩
theorem put_ls (z : Nat → En) (k : Nat) : insE (z k) (srt (ls z k)) = srt (ls z (k + 1)) := by
  rw [insE_eq, ls_succ]
  exact srt_perm_eq (List.perm_append_comm (l₁ := [z k]) (l₂ := ls z k))
theorem put_take {l : List En} {k : Nat} (hk : k < l.length) : insE (nth l k) (srt (l.take k)) = srt (l.take (k + 1)) := by
  rw [insE_eq, take_nth hk]
  exact srt_perm_eq (List.perm_append_comm (l₁ := [nth l k]) (l₂ := l.take k))
theorem ls_zero (z : Nat → En) : srt (ls z 0) = [] := List.eq_nil_of_length_eq_zero (by rw [srt_length, ls_length])
theorem take_zero (l : List En) : srt (l.take 0) = [] := List.eq_nil_of_length_eq_zero (by rw [srt_length]; simp)

set_option maxHeartbeats 4000000 in
theorem walk (a : Option Addr) (len cap : Nat) (z : Nat → En) (w : World) (h : IsEnts w a len cap z) :
    Calls Try.prog 4 #[.slice a len cap] w fun e w' => e = .returned (.bool true) ∧ Below w.heap.size w w' := by
  have AL := all_any 60 (by omega) a len cap z w h
  rw [show ((60 : Nat) : Int) = 60 from rfl] at AL
  obtain ⟨hE, hlc, hcm⟩ := h
  unfold maxLen at hcm
  obtain ⟨L, eL⟩ : ∃ L, min len 60 = L := ⟨_, rfl⟩
  have hL1 : L ≤ len := by omega
  have hL2 : L ≤ 60 := by omega
  rw [eL] at AL
  clear eL
  have HE := Lib.hid (hE.less hL1)
  clear hE
  go_enter Try.func4, Try.ntmps4
  go_wp2_with fail
  with_reducible refine AL.mono ?_
  rintro e w1 ⟨va, rfl, own1, b1⟩
  have BU := build_any (ls z L) (by rw [ls_length]; omega) va w1 (lists_own (by rw [ls_length]; exact own1))
  have HB1 := Lib.hid b1
  obtain ⟨pa, ca, rfl⟩ := own_slice own1
  clear own1 b1 AL
  go_wp2_with fail
  with_reducible refine BU.mono ?_
  rintro e w2 ⟨hb, v2, l2, rfl, ha2, p2, r2, b2⟩
  have hl2 : l2.length = L := by rw [p2.length_eq, ls_length]
  have LI := list_any w2 _ hb v2 l2 (by omega) ha2
  unfold IsCopied at LI
  rw [hl2] at LI
  have HB2 := Lib.hid (HB1.out.trans (b2.mono HB1.out.size))
  have HA2 := Lib.hid ha2
  have HP2 := Lib.hid p2
  have HR2 := Lib.hid r2
  have HL2 := Lib.hid hl2
  clear ha2 p2 r2 hl2 b2 HB1 BU
  go_wp2_with fail
  with_reducible refine LI.mono ?_
  rintro e w3 ⟨rfl, hg3, b3⟩
  have HB3 := Lib.hid (HB2.out.trans (b3.mono HB2.out.size))
  have HA3 := Lib.hid (HA2.out.next b3)
  have HG3 := Lib.hid (listAt_block hg3 rfl)
  obtain ⟨gg, egg⟩ : ∃ gg, w2.heap.size = gg := ⟨_, rfl⟩
  rw [egg] at HG3 ⊢
  clear egg hg3 b3 LI HA2 HB2
  go_wp2
  go_loopw [6, 20] (fun d i wr => ∃ k : Nat, k ≤ L ∧ i = .int .i64 k ∧ wr.ownsRow w3.heap.size 32 4 d k (flatE (srt (ls z k))) ∧ Below w3.heap.size w3 wr) (fun _ i _ => L - (intOf i).toNat)
  case atStart => exact ⟨0, by omega, rfl, by rw [ls_zero]; exact World.ownsRow_nil _ _ _ _, Below.refl _ _⟩
  case round =>
    obtain ⟨k, hk, rfl, hown, hbe⟩ := hrel
    have HB4 := Lib.hid (HB3.out.trans (hbe.mono HB3.out.size))
    by_cases hlt : k < L
    · obtain ⟨b, off, rfl, hb_, hc⟩ := (HE.out.below HB4.out).at_ (by omega)
      obtain ⟨c0, c1, c2, c3⟩ := hc k hlt
      obtain ⟨x, hx⟩ : ∃ x, z k = x := ⟨_, rfl⟩
      rw [hx] at c0 c1 c2 c3
      have RP := rpush_any x (srt (ls z k)) (by rw [srt_length, ls_length]; omega) u6 wr (docL_own hown (by rw [srt_length, ls_length]))
      unfold IsPut entV at RP
      rw [← hx, put_ls, hx, srt_length, ls_length] at RP
      have c01 : (0 : Int) ≤ (k : Int) := by omega
      have c02 : (k : Int) < (len : Int) := by omega
      have c03 : (k : Int) < (L : Int) := by omega
      have HBE := Lib.hid hbe
      clear hc hx hown hbe HB4
      go_wp2_with fail
      with_reducible refine RP.mono ?_
      rintro e w4 ⟨v4, rfl, own4, b4⟩
      have O4 := Lib.hid (own4.mono (base' := w3.heap.size) HBE.out.size)
      have B4 := Lib.hid (HBE.out.trans (b4.mono HBE.out.size))
      clear own4 b4 RP HBE c0 c1 c2 c3
      go_wp2
      go_roundw
      case rel => exact ⟨k + 1, by omega, by go_num, O4.out, B4.out⟩
      case measure => simp [intOf]; omega
    · obtain rfl : k = L := by omega
      obtain ⟨pm, cm, rfl⟩ := own_slice hown
      have HM := Lib.hid hown
      have HAM := Lib.hid (HA3.out.next hbe)
      have HGM := Lib.hid (HG3.out.next hbe)
      obtain ⟨wM, hwM⟩ : ∃ q, q = wr := ⟨wr, rfl⟩
      subst hwM
      clear hown hbe HA3 HG3 HB3 HE
      go_wp2
      go_loopw [7, 32] (fun d i wr => ∃ j : Nat, j ≤ k ∧ i = .int .i64 j ∧ wr.ownsRow wM.heap.size 32 4 d j (flatE (srt (l2.take j))) ∧ Below wM.heap.size wM wr) (fun _ i _ => k - (intOf i).toNat)
      case atStart => exact ⟨0, by omega, rfl, by rw [take_zero]; exact World.ownsRow_nil _ _ _ _, Below.refl _ _⟩
      case round =>
        obtain ⟨j, hj, rfl, hown, hbe⟩ := hrel
        by_cases hjk : j < k
        · have hj2 : j < l2.length := by rw [HL2.out]; exact hjk
          obtain ⟨c0, c1, c2, c3⟩ := (HGM.out.next hbe).nth hj2
          obtain ⟨x, hx⟩ : ∃ x, nth l2 j = x := ⟨_, rfl⟩
          rw [hx] at c0 c1 c2 c3
          have B1 : Below wr.heap.size wr (wr.alloc (.cells #[.int .i64 x.b, .int .i64 x.d, .int .i64 x.s, .int .i64 x.i] 39)) := (Below.refl _ _).alloc (Nat.le_refl _) _
          have htl : (srt (l2.take j)).length = j := by rw [srt_length, List.length_take]; omega
          have RP := rpush_any x (srt (l2.take j)) (by rw [htl]; omega) u7 (wr.alloc (.cells #[.int .i64 x.b, .int .i64 x.d, .int .i64 x.s, .int .i64 x.i] 39)) (docL_own (own_next hown B1) htl)
          unfold IsPut entV at RP
          rw [← hx, put_take hj2, hx, show (srt (l2.take (j + 1))).length = j + 1 by rw [srt_length, List.length_take]; omega] at RP
          have c01 : (0 : Int) ≤ (j : Int) := by omega
          have c03 : (j : Int) < (k : Int) := by omega
          have HBE := Lib.hid (hbe.trans (B1.mono hbe.size))
          clear hx hown hbe hj2 htl B1
          go_wp2_with fail
          with_reducible refine RP.mono ?_
          rintro e w4 ⟨v4, rfl, own4, b4⟩
          have O4 := Lib.hid (own4.mono (base' := wM.heap.size) HBE.out.size)
          have B4 := Lib.hid (HBE.out.trans (b4.mono HBE.out.size))
          clear own4 b4 RP HBE c0 c1 c2 c3
          go_wp2
          go_roundw
          case rel => exact ⟨j + 1, by omega, by go_num, O4.out, B4.out⟩
          case measure => simp [intOf]; omega
        · obtain rfl : j = k := by omega
          obtain ⟨pn, cn, rfl⟩ := own_slice hown
          have hlist : Lists wr (.slice (some ⟨gg, 0, none⟩) j j) l2 := .inr ⟨gg, j, by rw [HL2.out], HGM.out.next hbe⟩
          have LN := len_any wr _ hb v2 l2 (HAM.out.next hbe)
          rw [HL2.out] at LN
          have ST := stands_any l2 (by rw [HL2.out]; omega) HR2.out _ wr hlist
          have hsn : srt (l2.take j) = srt (ls z j) := by rw [List.take_of_length_le (by rw [HL2.out]; omega)]; exact srt_perm_eq HP2.out
          rw [hsn] at hown
          have HN := Lib.hid hown
          have HM2 := Lib.hid (own_next HM.out hbe)
          have HB5 := Lib.hid (HB4.out.trans (hbe.mono HB4.out.size))
          clear hown hbe hlist hsn HM HAM HGM HB4
          go_wp2_with (first | (go_at_call 18; (with_reducible refine LN.mono ?_); rintro e w' ⟨rfl, rfl⟩) | fail)
          with_reducible refine ST.mono ?_
          rintro e w5 ⟨rfl, b5⟩
          have HN5 := Lib.hid (own_next HN.out b5)
          have HM5 := Lib.hid (own_next HM2.out b5)
          have HB6 := Lib.hid (HB5.out.trans (b5.mono HB5.out.size))
          clear b5 HN HM2 HB5 ST LN
          go_wp2
          obtain ⟨wP, hwP⟩ : ∃ q, q = wr := ⟨wr, rfl⟩
          subst hwP
          go_loopw [70] (fun i wr => ∃ q : Nat, q ≤ j ∧ i = .int .i64 q ∧ Below w5.heap.size w5 wr) (fun i _ => j - (intOf i).toNat)
          case atStart => exact ⟨0, by omega, rfl, Below.refl _ _⟩
          case round =>
            obtain ⟨q, hq, rfl, hbe⟩ := hrel
            by_cases hqj : q < j
            · obtain ⟨gm, rfl, lm⟩ := own_some HM5.out (by omega)
              obtain ⟨gn, rfl, ln⟩ := own_some HN5.out (by omega)
              have hq2 : q < (srt (ls z j)).length := by rw [srt_length, ls_length]; exact hqj
              have FM := Lib.hid (fun W (hW : Below w5.heap.size w5 W) => (lm.next hW).nth hq2)
              have FN := Lib.hid (fun W (hW : Below w5.heap.size w5 W) => (ln.next hW).nth hq2)
              generalize nth (srt (ls z j)) q = y at FM FN
              have F := Lib.hid (hbe.trans ((Below.refl wr.heap.size wr).drew.mono hbe.size))
              have c01 : (0 : Int) ≤ (q : Int) := by omega
              have c02 : (q : Int) < (j : Int) := by omega
              clear lm ln hq2 hbe
              go_wp2
              go_region_held3 (fun w' => w'.cell? ⟨gm, q * 4, none⟩ = some (.int .i64 y.b) ∧ w'.cell? ⟨gm, q * 4 + 1, none⟩ = some (.int .i64 y.d) ∧ w'.cell? ⟨gm, q * 4 + 2, none⟩ = some (.int .i64 y.s) ∧ w'.cell? ⟨gm, q * 4 + 3, none⟩ = some (.int .i64 y.i) ∧ w'.cell? ⟨gn, q * 4, none⟩ = some (.int .i64 y.b) ∧ w'.cell? ⟨gn, q * 4 + 1, none⟩ = some (.int .i64 y.d) ∧ w'.cell? ⟨gn, q * 4 + 2, none⟩ = some (.int .i64 y.s) ∧ w'.cell? ⟨gn, q * 4 + 3, none⟩ = some (.int .i64 y.i)) (exact ⟨(FM.out _ F.out).1, (FM.out _ F.out).2.1, (FM.out _ F.out).2.2.1, (FM.out _ F.out).2.2.2, FN.out _ F.out⟩)
                (fail)
              all_goals
                go_wp2
                go_roundw
                case rel => exact ⟨q + 1, by omega, by go_num, F.out⟩
                case measure => simp [intOf]; omega
            · obtain rfl : q = j := by omega
              have WK := wakes_any wr
              have HB7 := Lib.hid (HB6.out.trans (hbe.mono HB6.out.size))
              clear hbe HB6
              go_wp2_with fail
              with_reducible refine WK.mono ?_
              rintro e w8 ⟨rfl, b8⟩
              have HB8 := Lib.hid (HB7.out.trans (b8.mono HB7.out.size))
              clear b8 WK HB7
              go_wp2
              go_ret
              exact ⟨rfl, HB8.out⟩

/-! ### the row -/
open Go.ChangeShapes Go.WideShapes Go.ChangeAt
set_option maxRecDepth 100000 in
theorem lifted (os : Os) (started : os.Started) (H : Type) (enc : TypeId × Value → H) :
    ReturnsInHanded {} Try.checked os 4 .any (Rows.iheapListsSpec.pre6 enc Try.prog Try.f4 Rows.iheapListsRow.domain false) (Rows.iheapListsSpec.post enc Try.prog Try.f4 false true false false) := by
  refine returnsInHanded_of_change (C := Try.checked) own started (by kernel_rfl) Try.func4
    (ChangeSpec.witness6 (enc := enc) (C := Try.checked) false ⟨#[], #[.slice none 0 0], []⟩ 8 (by kernel_rfl) (by kernel_rfl) (by kernel_rfl) (by kernel_rfl)) ?_
  intro W base args ds gs before hval0 hW hcnd _
  have hval : ∀ (j : Nat) t v, Try.f4.params[j]? = some t → args[j]? = some v → Value.okWide Try.prog W .any base t v := hval0
  have hW' := hW
  obtain ⟨p, q, hA0, hV, rfl, hfz, hnd⟩ := hW
  have hA : DataW.TrodAll enc Try.prog W 0 (fun _ => true) true Try.f4.params.toList args.toList ds p := hA0
  rw [Try.params4] at hA hval
  obtain ⟨v0, vs0, d0, ds0, p0, q0, hargs, rfl, rfl, h0, r0⟩ := trodAll_cons hA
  obtain ⟨rfl, rfl, rfl⟩ := trodAll_nil r0
  obtain rfl : args = #[v0] := by cases args; simp_all
  obtain ⟨rfl, rfl⟩ := trodVars_none hV
  have k0 := h0
  have lt0 : ∀ x ∈ p0, x.block < W.heap.size := by obtain ⟨m, hm⟩ := k0; exact DataW.trod_lt m _ _ _ hm
  obtain ⟨x0, l0, c0, zs0, w0, rfl⟩ := open_ents (hval 0 22 v0 rfl rfl) h0
  clear hA0 hval0
  refine (walk x0 l0 c0 zs0 W w0).mono fun e W' ⟨he, bel⟩ => ?_
  subst he
  exact ⟨_, rfl, _, _, _, [], _, [], hW', trodAll_mk1 (shut_bool Try.underlying4 _), (trodAll_cons_mk (Below.trod laidOut (by kernel_rfl) (of_decide_eq_true (by kernel_rfl)) k0 bel lt0) trodAll_mk0), rfl, bel.frame _, fun h => by cases h⟩

theorem over : Rows.iheapListsRow.holds Try.pinned (OpenSpec.ofChange Rows.iheapListsSpec) :=
  OpenClaim.holds_of_wide 4 Try.f4 rfl rfl rfl rfl rfl rfl rfl ⟨rfl, rfl, rfl, rfl, rfl⟩ rfl rfl rfl rfl rfl (by kernel_rfl) Try.func4 (by kernel_rfl)
    (of_decide_eq_true (by kernel_rfl)) (by unfold Func.isWrapper; first | (rw [if_pos (by decide +kernel)]; kernel_rfl) | (rw [if_neg (by decide +kernel)]; exact ⟨rfl, rfl⟩))
    (fun os started H enc _ => lifted os started H enc)

end Go.Proofs.Ytccjahlpakiadaa.I.iheapLists
namespace Go.Proofs.Ytccjahlpakiadaa
theorem iheapLists_holds : Rows.IheapListsSaid := I.iheapLists.over
#print axioms iheapLists_holds
end Go.Proofs.Ytccjahlpakiadaa
