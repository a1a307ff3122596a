/-
  What stands does (layer 6's laws): of a list that stands right it says so.
-/
import Derived.Test.YtccjahlpakiadaaLawHeap
namespace Go.Proofs.Ytccjahlpakiadaa.I
set_option maxRecDepth 100000
open Go.RowKit Go.Sort

theorem right_pair {l : List En} (h : Right l) {i : Nat} (hi : i < l.length) (ho : i % 2 = 1) : eltB (nth l i) (nth l (i - 1)) = false := by
  have h1 := h.ok (i / 2) (by omega)
  have e1 : sd l true (i / 2) = nth l (i - 1) := by unfold sd; rw [pl_t]; congr 1; omega
  have e2 : sd l false (i / 2) = nth l i := by unfold sd; rw [pl_f]; congr 1; omega
  rw [e1, e2] at h1
  have : ¬ eltP (nth l i) (nth l (i - 1)) := h1
  cases hh : eltB (nth l i) (nth l (i - 1)) with
  | false => rfl
  | true => exact absurd ((eltB_iff _ _).1 hh) this
theorem right_up {l : List En} (h : Right l) {i u : Nat} (hi : i < l.length) (hk : 0 < i / 2) (hu : u = (i / 2 - 1) / 2) : eltB (nth l i) (nth l (2 * u)) = false ∧ eltB (nth l (2 * u + 1)) (nth l i) = false := by
  subst hu
  have hc := ch_par hk
  have l1 := h.lk true _ _ hc (by omega)
  have l2 := h.lk false _ _ hc (by omega)
  obtain ⟨s1, s2⟩ := h.sides hi
  have e1 : sd l true ((i / 2 - 1) / 2) = nth l (2 * ((i / 2 - 1) / 2)) := rfl
  have e2 : sd l false ((i / 2 - 1) / 2) = nth l (2 * ((i / 2 - 1) / 2) + 1) := by unfold sd; rw [pl_f]; congr 1; omega
  rw [show ∀ a b, ble false a b = ble true b a from fun _ _ => rfl] at l2
  have q1 := ble_trans l1 s1
  have q2 := ble_trans s2 l2
  rw [e1] at q1
  rw [e2] at q2
  constructor
  · cases hh : eltB (nth l i) (nth l (2 * ((i / 2 - 1) / 2))) with
    | false => rfl
    | true => exact absurd ((eltB_iff _ _).1 hh) q1
  · cases hh : eltB (nth l (2 * ((i / 2 - 1) / 2) + 1)) (nth l i) with
    | false => rfl
    | true => exact absurd ((eltB_iff _ _).1 hh) q2

def planOdd (gl n c i p : Nat) (x y : En) : Plan := { ks := [0, 0, 0, 0, 0, 0, 0, 0, 0, 0, 0, 0], ds := [16, 17, 18, 19, 20, 21, 22, 23, 24, 25, 26, 27], vs := [.int .i64 (i : Int), .int .i64 1, .bool true, .bool true, .agg #[.int .i64 x.b, .int .i64 x.d, .int .i64 x.s, .int .i64 x.i], .slice (some ⟨gl, 0, none⟩) n c, .int .i64 (i : Int), .int .i64 (p : Int), .pointer (some ⟨gl, p * 4, none⟩), .agg #[.int .i64 y.b, .int .i64 y.d, .int .i64 y.s, .int .i64 y.i], .bool false, .bool false], ss := [0, 0, 0, 0, 0, 0, 0, 0, 0, 0, 0, 0], zs := [#[], #[], #[], #[], #[], #[], #[], #[], #[], #[], #[], #[]], fs := [#[], #[], #[], #[], #[], #[], #[], #[], #[], #[], #[], #[]], ts := [0, 0, 0, 0, 0, 0, 0, 0, 0, 0, 0, 0] }
def planUp (gl n c k u q r : Nat) (x y z : En) : Plan := { ks := [0, 0, 0, 0, 0, 0, 0, 0, 0, 0, 0, 0, 0, 0, 0, 0, 0, 0, 0, 0, 0], ds := [31, 32, 33, 34, 35, 36, 37, 38, 39, 40, 41, 42, 43, 44, 45, 46, 47, 48, 49, 50, 51], vs := [.int .i64 (k : Int), .bool true, .bool true, .agg #[.int .i64 x.b, .int .i64 x.d, .int .i64 x.s, .int .i64 x.i], .slice (some ⟨gl, 0, none⟩) n c, .int .i64 (u : Int), .int .i64 (q : Int), .pointer (some ⟨gl, q * 4, none⟩), .agg #[.int .i64 y.b, .int .i64 y.d, .int .i64 y.s, .int .i64 y.i], .bool false, .bool false, .slice (some ⟨gl, 0, none⟩) n c, .int .i64 (u : Int), .int .i64 (q : Int), .int .i64 (r : Int), .pointer (some ⟨gl, r * 4, none⟩), .agg #[.int .i64 z.b, .int .i64 z.d, .int .i64 z.s, .int .i64 z.i], .agg #[.int .i64 x.b, .int .i64 x.d, .int .i64 x.s, .int .i64 x.i], .bool false, .bool false, .bool false], ss := [0, 0, 0, 0, 0, 0, 0, 0, 0, 0, 0, 0, 0, 0, 0, 0, 0, 0, 0, 0, 0], zs := [#[], #[], #[], #[], #[], #[], #[], #[], #[], #[], #[], #[], #[], #[], #[], #[], #[], #[], #[], #[], #[]], fs := [#[], #[], #[], #[], #[], #[], #[], #[], #[], #[], #[], #[], #[], #[], #[], #[], #[], #[], #[], #[], #[]], ts := [0, 0, 0, 0, 0, 0, 0, 0, 0, 0, 0, 0, 0, 0, 0, 0, 0, 0, 0, 0, 0] }
def planTop  : Plan := { ks := [0, 0, 0, 0, 0, 0, 0, 0, 0, 0, 0, 0, 0, 0, 0, 0, 0, 0, 0, 0, 0], ds := [31, 32, 33, 34, 35, 36, 37, 38, 39, 40, 41, 42, 43, 44, 45, 46, 47, 48, 49, 50, 51], vs := [.int .i64 0, .bool false, .bool false, undef, undef, undef, undef, undef, undef, undef, undef, undef, undef, undef, undef, undef, undef, undef, undef, undef, .bool false], ss := [0, 0, 0, 0, 0, 0, 0, 0, 0, 0, 0, 0, 0, 0, 0, 0, 0, 0, 0, 0, 0], zs := [#[], #[], #[], #[], #[], #[], #[], #[], #[], #[], #[], #[], #[], #[], #[], #[], #[], #[], #[], #[], #[]], fs := [#[], #[], #[], #[], #[], #[], #[], #[], #[], #[], #[], #[], #[], #[], #[], #[], #[], #[], #[], #[], #[]], ts := [0, 0, 0, 0, 0, 0, 0, 0, 0, 0, 0, 0, 0, 0, 0, 0, 0, 0, 0, 0, 0] }
def planEven (i : Nat) : Plan := { ks := [0, 0, 0, 0, 0, 0, 0, 0, 0, 0, 0, 0], ds := [16, 17, 18, 19, 20, 21, 22, 23, 24, 25, 26, 27], vs := [.int .i64 (i : Int), .int .i64 0, .bool false, .bool false, undef, undef, undef, undef, undef, undef, undef, .bool false], ss := [0, 0, 0, 0, 0, 0, 0, 0, 0, 0, 0, 0], zs := [#[], #[], #[], #[], #[], #[], #[], #[], #[], #[], #[], #[]], fs := [#[], #[], #[], #[], #[], #[], #[], #[], #[], #[], #[], #[]], ts := [0, 0, 0, 0, 0, 0, 0, 0, 0, 0, 0, 0] }
set_option maxHeartbeats 40000000 in
theorem stands_some (l : List En) (hn : l.length ≤ 1000) (hr : Right l) (gl c : Nat) (w : World) (hL : ListAt w gl l) :
    Calls Try.prog 19 #[.slice (some ⟨gl, 0, none⟩) l.length c] w fun e w' => e = .returned (.bool true) ∧ Below w.heap.size w w' := by
  obtain ⟨n, en⟩ : ∃ n, l.length = n := ⟨_, rfl⟩
  have EN := Lib.hid en
  have HL := Lib.hid hL
  have HR := Lib.hid hr
  rw [en] at hn ⊢
  clear en hL hr
  go_enter Try.func19, Try.ntmps19
  go_wp2
  go_loopw [9] (fun i wr => ∃ k : Nat, k ≤ n ∧ i = .int .i64 k ∧ Below w.heap.size w wr) (fun i _ => n - (intOf i).toNat)
  case atStart => exact ⟨0, by omega, rfl, Below.refl _ _⟩
  case round =>
    obtain ⟨i, hin, rfl, hbe⟩ := hrel
    have HBE := Lib.hid hbe
    by_cases hlt : i < n
    · have hLr := HL.out.next hbe
      clear hbe
      have hil : i < l.length := by rw [EN.out]; exact hlt
      obtain ⟨a0, a1, a2, a3⟩ := hLr.nth hil
      have HPA := Lib.hid (fun ho => right_pair HR.out hil ho)
      have HUP := Lib.hid (fun u hk hu => right_up (u := u) HR.out hil hk hu)
      generalize nth l i = x at *
      have c01 : (0 : Int) ≤ (i : Int) := by omega
      have c02 : (i : Int) < (n : Int) := by omega
      obtain ⟨k, ek⟩ : ∃ k, i / 2 = k := ⟨_, rfl⟩
      have ek' : (i : Int) / 2 = (k : Int) := by omega
      have EK := Lib.hid ek
      obtain ⟨xb, hxb⟩ : ∃ xb, wr.heap.size = xb := ⟨_, rfl⟩
      have HEB0 : Hid (EBox xb x (wr.alloc (.cells #[.int .i64 x.b, .int .i64 x.d, .int .i64 x.s, .int .i64 x.i] 39))) := by rw [← hxb]; exact ebox_new wr x.b x.d x.s x.i 39
      have HBS : Hid (Below wr.heap.size wr (wr.alloc (.cells #[.int .i64 x.b, .int .i64 x.d, .int .i64 x.s, .int .i64 x.i] 39))) := (Below.refl _ _).alloc (Nat.le_refl _) _
      have HLS := Lib.hid (hLr.next HBS.out)
      have HBS2 := Lib.hid (HBE.out.trans (HBS.out.mono HBE.out.size))
      clear hLr HBS ek
      by_cases ho : i % 2 = 1
      · obtain ⟨p, ep⟩ : ∃ p, i - 1 = p := ⟨_, rfl⟩
        have ep' : IntKind.i64.wrap ((i : Int) - 1) = (p : Int) := by rw [IntKind.wrap_i64]; omega
        have em : (i : Int).tmod 2 = 1 := by rw [Int.tmod_eq_emod_of_nonneg c01]; omega
        have c03 : (0 : Int) ≤ (p : Int) := by omega
        have c04 : (p : Int) < (n : Int) := by omega
        have hP := HPA.out ho
        rw [ep] at hP
        have RL := less_any x (nth l p)
        rw [hP] at RL
        obtain ⟨y0, y1, y2, y3⟩ := HLS.out.nth (i := p) (by omega)
        have HY0 := Lib.hid (IBox.mk y0 y1 y2 y3 HLS.out.1)
        generalize nth l p = y at *
        unfold entV at RL
        clear hP HPA y0 y1 y2 y3 ep ho
        go_wp2
        clear a0 a1 a2 a3 hxb
        generalize (wr.alloc (.cells #[.int .i64 x.b, .int .i64 x.d, .int .i64 x.s, .int .i64 x.i] 39)) = ws at *
        have HEB := Lib.hid HEB0.out
        have HY := Lib.hid HY0.out
        have ok : (planOdd gl n c i p x y).ok = true := rfl
        refine region_inv (Inv := fun lq_ aq_ wr => ∃ (e : Nat → Bool) (t : Nat → Value), lq_ = #[e 0, e 1, e 2, e 3, e 4, e 5, e 6, e 7, e 8, e 9, e 10, e 11] ∧ aq_ = ⟨#[.slice (some ⟨gl, 0, none⟩) n c, undef, u2, .int .i64 (i : Int), .pointer (some ⟨xb, 0, none⟩), .int .i64 (k : Int), u6, .slice (some ⟨gl, 0, none⟩) n c, .int .i64 (n : Int), .int .i64 (i : Int), .bool true, .int .i64 (i : Int), .pointer (some ⟨gl, i * 4, none⟩), .agg #[.int .i64 x.b, .int .i64 x.d, .int .i64 x.s, .int .i64 x.i], .int .i64 (i : Int), .int .i64 (k : Int), t 16, t 17, t 18, t 19, t 20, t 21, t 22, t 23, t 24, t 25, t 26, t 27, u28, u29, u30, u31, u32, u33, u34, u35, u36, u37, u38, u39, u40, u41, u42, u43, u44, u45, u46, u47, u48, u49, u50, u51, u52], []⟩ ∧ Vals (planOdd gl n c i p x y) e t ∧ Below ws.heap.size ws wr) (by kernel_rfl) ?step ?start ?done
        case start => exact ⟨fun _ => false, fun j => if j = 16 then u16 else if j = 17 then u17 else if j = 18 then u18 else if j = 19 then u19 else if j = 20 then u20 else if j = 21 then u21 else if j = 22 then u22 else if j = 23 then u23 else if j = 24 then u24 else if j = 25 then u25 else if j = 26 then u26 else if j = 27 then u27 else undef, rfl, rfl, Vals.start _ _, (Below.refl _ _).drew⟩
        case step =>
          rintro lq_ aq_ wr ⟨e, t, rfl, rfl, hs, hm⟩ q_ o ho hi ha
          match q_, ho, hi, ha with
          | 0, ho, hi, ha =>
            obtain rfl : _ = o := Option.some.inj ho
            have hi : e 0 = false := hi
            refine wpOp_step (i := 0) rfl (fun K hK => ?_)
            have HK : Shut (∀ a w, _ → K a w) := hK
            clear hK ho
            have HS := Lib.hid hs
            have HM := Lib.hid hm
            have HI := Lib.hid hi
            clear hs ha hm hi
            go_simp
            exact HK.out _ _ ⟨upd e 0 true, upd t 16 _, rfl, rfl, by exact HS.out.put ok (i := 0) rfl, HM.out⟩
          | 1, ho, hi, ha =>
            obtain rfl : _ = o := Option.some.inj ho
            have hi : e 1 = false := hi
            have T0 : t 16 = .int .i64 (i : Int) := hs.val 0 rfl (ha { on := 0, ground := .data } (by simp) rfl)
            have H0 := Lib.hid T0
            refine wpOp_step (i := 1) rfl (fun K hK => ?_)
            have HK : Shut (∀ a w, _ → K a w) := hK
            clear hK ho
            have HS := Lib.hid hs
            have HM := Lib.hid hm
            have HI := Lib.hid hi
            clear hs ha hm hi
            go_simp
            exact HK.out _ _ ⟨upd e 1 true, upd (upd t 16 _) 17 _, rfl, rfl, by rw [upd_self H0.out]; exact HS.out.put ok (i := 1) rfl, HM.out⟩
          | 2, ho, hi, ha =>
            obtain rfl : _ = o := Option.some.inj ho
            have hi : e 2 = false := hi
            have T1 : t 17 = .int .i64 1 := hs.val 1 rfl (ha { on := 1, ground := .data } (by simp) rfl)
            have H1 := Lib.hid T1
            refine wpOp_step (i := 2) rfl (fun K hK => ?_)
            have HK : Shut (∀ a w, _ → K a w) := hK
            clear hK ho
            have HS := Lib.hid hs
            have HM := Lib.hid hm
            have HI := Lib.hid hi
            clear hs ha hm hi
            go_simp
            exact HK.out _ _ ⟨upd e 2 true, upd (upd t 17 _) 18 _, rfl, rfl, by rw [upd_self H1.out]; exact HS.out.put ok (i := 2) rfl, HM.out⟩
          | 3, ho, hi, ha =>
            obtain rfl : _ = o := Option.some.inj ho
            have hi : e 3 = false := hi
            have T2 : t 18 = .bool true := hs.val 2 rfl (ha { on := 2, ground := .data } (by simp) rfl)
            have H2 := Lib.hid T2
            refine wpOp_step (i := 3) rfl (fun K hK => ?_)
            have HK : Shut (∀ a w, _ → K a w) := hK
            clear hK ho
            have HS := Lib.hid hs
            have HM := Lib.hid hm
            have HI := Lib.hid hi
            clear hs ha hm hi
            go_simp
            exact HK.out _ _ ⟨upd e 3 true, upd (upd t 18 _) 19 _, rfl, rfl, by rw [upd_self H2.out]; exact HS.out.put ok (i := 3) rfl, HM.out⟩
          | 4, ho, hi, ha =>
            obtain rfl : _ = o := Option.some.inj ho
            have hi : e 4 = false := hi
            have T3 : t 19 = .bool true := hs.val 3 rfl (ha { on := 3, ground := .guard } (by simp) rfl)
            have H3 := Lib.hid T3
            obtain ⟨c0, c1, c2, c3, cz⟩ := HEB.out.next hm
            refine wpOp_step (i := 4) rfl (fun K hK => ?_)
            have HK : Shut (∀ a w, _ → K a w) := hK
            clear hK ho
            have HS := Lib.hid hs
            have HM := Lib.hid hm
            have HI := Lib.hid hi
            clear hs ha hm hi
            go_simp
            exact HK.out _ _ ⟨upd e 4 true, upd (upd t 19 _) 20 _, rfl, rfl, by rw [upd_self H3.out]; exact HS.out.put ok (i := 4) rfl, HM.out⟩
          | 5, ho, hi, ha =>
            obtain rfl : _ = o := Option.some.inj ho
            have hi : e 5 = false := hi
            have T3 : t 19 = .bool true := hs.val 3 rfl (ha { on := 3, ground := .guard } (by simp) rfl)
            have H3 := Lib.hid T3
            refine wpOp_step (i := 5) rfl (fun K hK => ?_)
            have HK : Shut (∀ a w, _ → K a w) := hK
            clear hK ho
            have HS := Lib.hid hs
            have HM := Lib.hid hm
            have HI := Lib.hid hi
            clear hs ha hm hi
            go_simp
            exact HK.out _ _ ⟨upd e 5 true, upd (upd t 19 _) 21 _, rfl, rfl, by rw [upd_self H3.out]; exact HS.out.put ok (i := 5) rfl, HM.out⟩
          | 6, ho, hi, ha =>
            obtain rfl : _ = o := Option.some.inj ho
            have hi : e 6 = false := hi
            have T3 : t 19 = .bool true := hs.val 3 rfl (ha { on := 3, ground := .guard } (by simp) rfl)
            have H3 := Lib.hid T3
            refine wpOp_step (i := 6) rfl (fun K hK => ?_)
            have HK : Shut (∀ a w, _ → K a w) := hK
            clear hK ho
            have HS := Lib.hid hs
            have HM := Lib.hid hm
            have HI := Lib.hid hi
            clear hs ha hm hi
            go_simp
            exact HK.out _ _ ⟨upd e 6 true, upd (upd t 19 _) 22 _, rfl, rfl, by rw [upd_self H3.out]; exact HS.out.put ok (i := 6) rfl, HM.out⟩
          | 7, ho, hi, ha =>
            obtain rfl : _ = o := Option.some.inj ho
            have hi : e 7 = false := hi
            have T3 : t 19 = .bool true := hs.val 3 rfl (ha { on := 3, ground := .guard } (by simp) rfl)
            have H3 := Lib.hid T3
            have T6 : t 22 = .int .i64 (i : Int) := hs.val 6 rfl (ha { on := 6, ground := .data } (by simp) rfl)
            have H6 := Lib.hid T6
            refine wpOp_step (i := 7) rfl (fun K hK => ?_)
            have HK : Shut (∀ a w, _ → K a w) := hK
            clear hK ho
            have HS := Lib.hid hs
            have HM := Lib.hid hm
            have HI := Lib.hid hi
            clear hs ha hm hi
            go_simp
            exact HK.out _ _ ⟨upd e 7 true, upd (upd (upd t 19 _) 22 _) 23 _, rfl, rfl, by rw [upd_self H3.out, upd_self H6.out]; exact HS.out.put ok (i := 7) rfl, HM.out⟩
          | 8, ho, hi, ha =>
            obtain rfl : _ = o := Option.some.inj ho
            have hi : e 8 = false := hi
            have T3 : t 19 = .bool true := hs.val 3 rfl (ha { on := 3, ground := .guard } (by simp) rfl)
            have H3 := Lib.hid T3
            have T5 : t 21 = .slice (some ⟨gl, 0, none⟩) n c := hs.val 5 rfl (ha { on := 5, ground := .data } (by simp) rfl)
            have H5 := Lib.hid T5
            have T7 : t 23 = .int .i64 (p : Int) := hs.val 7 rfl (ha { on := 7, ground := .data } (by simp) rfl)
            have H7 := Lib.hid T7
            refine wpOp_step (i := 8) rfl (fun K hK => ?_)
            have HK : Shut (∀ a w, _ → K a w) := hK
            clear hK ho
            have HS := Lib.hid hs
            have HM := Lib.hid hm
            have HI := Lib.hid hi
            clear hs ha hm hi
            go_simp
            exact HK.out _ _ ⟨upd e 8 true, upd (upd (upd (upd t 19 _) 21 _) 23 _) 24 _, rfl, rfl, by rw [upd_self H3.out, upd_self H5.out, upd_self H7.out]; exact HS.out.put ok (i := 8) rfl, HM.out⟩
          | 9, ho, hi, ha =>
            obtain rfl : _ = o := Option.some.inj ho
            have hi : e 9 = false := hi
            have T3 : t 19 = .bool true := hs.val 3 rfl (ha { on := 3, ground := .guard } (by simp) rfl)
            have H3 := Lib.hid T3
            have T8 : t 24 = .pointer (some ⟨gl, p * 4, none⟩) := hs.val 8 rfl (ha { on := 8, ground := .data } (by simp) rfl)
            have H8 := Lib.hid T8
            obtain ⟨c0, c1, c2, c3, cz⟩ := HY.out.next hm
            refine wpOp_step (i := 9) rfl (fun K hK => ?_)
            have HK : Shut (∀ a w, _ → K a w) := hK
            clear hK ho
            have HS := Lib.hid hs
            have HM := Lib.hid hm
            have HI := Lib.hid hi
            clear hs ha hm hi
            go_simp
            exact HK.out _ _ ⟨upd e 9 true, upd (upd (upd t 19 _) 24 _) 25 _, rfl, rfl, by rw [upd_self H3.out, upd_self H8.out]; exact HS.out.put ok (i := 9) rfl, HM.out⟩
          | 10, ho, hi, ha =>
            obtain rfl : _ = o := Option.some.inj ho
            have hi : e 10 = false := hi
            have T3 : t 19 = .bool true := hs.val 3 rfl (ha { on := 3, ground := .guard } (by simp) rfl)
            have H3 := Lib.hid T3
            have T4 : t 20 = .agg #[.int .i64 x.b, .int .i64 x.d, .int .i64 x.s, .int .i64 x.i] := hs.val 4 rfl (ha { on := 4, ground := .data } (by simp) rfl)
            have H4 := Lib.hid T4
            have T9 : t 25 = .agg #[.int .i64 y.b, .int .i64 y.d, .int .i64 y.s, .int .i64 y.i] := hs.val 9 rfl (ha { on := 9, ground := .data } (by simp) rfl)
            have H9 := Lib.hid T9
            refine wpOp_step (i := 10) rfl (fun K hK => ?_)
            have HK : Shut (∀ a w, _ → K a w) := hK
            clear hK ho
            have HS := Lib.hid hs
            have HM := Lib.hid hm
            have HI := Lib.hid hi
            clear hs ha hm hi
            go_simp
            (with_reducible refine (RL _).mono ?_)
            rintro e' w' ⟨rfl, m⟩
            go_wp2_with fail
            exact HK.out _ _ ⟨upd e 10 true, upd (upd (upd (upd t 19 _) 20 _) 25 _) 26 _, rfl, rfl, by rw [upd_self H3.out, upd_self H4.out, upd_self H9.out]; exact HS.out.put ok (i := 10) rfl, HM.out.trans (m.below.mono HM.out.size)⟩
          | 11, ho, hi, ha =>
            obtain rfl : _ = o := Option.some.inj ho
            have hi : e 11 = false := hi
            have T3 : t 19 = .bool true := hs.val 3 rfl (ha { on := 3, ground := .data } (by simp) rfl)
            have H3 := Lib.hid T3
            have T10 : t 26 = .bool false := hs.val 10 rfl (ha { on := 10, ground := .data } (by simp) rfl)
            have H10 := Lib.hid T10
            refine wpOp_step (i := 11) rfl (fun K hK => ?_)
            have HK : Shut (∀ a w, _ → K a w) := hK
            clear hK ho
            have HS := Lib.hid hs
            have HM := Lib.hid hm
            have HI := Lib.hid hi
            clear hs ha hm hi
            go_simp
            exact HK.out _ _ ⟨upd e 11 true, upd (upd (upd t 19 _) 26 _) 27 _, rfl, rfl, by rw [upd_self H3.out, upd_self H10.out]; exact HS.out.put ok (i := 11) rfl, HM.out⟩
          | k + 12, ho, hi, ha => simp at ho
        case done =>
          rintro lq_ aq_ wr ⟨e, t, rfl, rfl, hs, hm⟩ hr
          have hd := ready_done hr rfl (by decide +kernel)
          have e11 : t 27 = .bool false := hs.val 11 rfl (hd 11 (by decide))
          rw [e11]
          generalize t 16 = u16, t 17 = u17, t 18 = u18, t 19 = u19, t 20 = u20, t 21 = u21, t 22 = u22, t 23 = u23, t 24 = u24, t 25 = u25, t 26 = u26
          have HB1 := Lib.hid hm
          obtain ⟨w1, ew1⟩ : ∃ w1, wr = w1 := ⟨_, rfl⟩
          rw [ew1] at HB1 ⊢
          clear hs hd hr e11 hm ew1
          clear ok RL HY HY0 y ep' c03 c04
          have HB2 := Lib.hid (HBS2.out.trans (HB1.out.mono HBS2.out.size))
          have HEB := Lib.hid (HEB0.out.next HB1.out)
          have HL1 := Lib.hid (HLS.out.next HB1.out)
          clear HB1
          by_cases hk : 0 < k
          · have hk' : (k : Int) > 0 := by omega
            obtain ⟨u, eu⟩ : ∃ u, (k - 1) / 2 = u := ⟨_, rfl⟩
            obtain ⟨q, eq⟩ : ∃ q, 2 * u = q := ⟨_, rfl⟩
            obtain ⟨r, er⟩ : ∃ r, q + 1 = r := ⟨_, rfl⟩
            have D1 : Hid (((k : Int) - 1) / 2 = (u : Int)) := by show _ = _; omega
            have d2 : IntKind.i64.wrap (2 * (u : Int)) = (q : Int) := by rw [IntKind.wrap_i64]; omega
            have d3 : IntKind.i64.wrap ((q : Int) + 1) = (r : Int) := by rw [IntKind.wrap_i64]; omega
            have d4 : (0 : Int) ≤ (q : Int) := by omega
            have d5 : (q : Int) < (n : Int) := by have := EK.out; omega
            have d6 : (0 : Int) ≤ (r : Int) := by omega
            have d7 : (r : Int) < (n : Int) := by have := EK.out; omega
            obtain ⟨f1, f2⟩ := HUP.out u (by rw [EK.out]; exact hk) (by rw [EK.out]; exact eu.symm)
            rw [eq] at f1 f2
            rw [er] at f2
            have RL := less_any x (nth l q)
            have RL2 := less_any (nth l r) x
            rw [f1] at RL
            rw [f2] at RL2
            obtain ⟨y0, y1, y2, y3⟩ := HL1.out.nth (i := q) (by rw [EN.out]; omega)
            obtain ⟨z0, z1, z2, z3⟩ := HL1.out.nth (i := r) (by rw [EN.out]; omega)
            have HY := Lib.hid (IBox.mk y0 y1 y2 y3 HL1.out.1)
            have HZ := Lib.hid (IBox.mk z0 z1 z2 z3 HL1.out.1)
            generalize nth l q = y at *
            generalize nth l r = z at *
            unfold entV at RL RL2
            clear f1 f2 y0 y1 y2 y3 z0 z1 z2 z3 eu eq er
            go_wp2
            rw [D1.out]
            have ok : (planUp gl n c k u q r x y z).ok = true := rfl
            refine region_inv (Inv := fun lq_ aq_ wr => ∃ (e : Nat → Bool) (t : Nat → Value), lq_ = #[e 0, e 1, e 2, e 3, e 4, e 5, e 6, e 7, e 8, e 9, e 10, e 11, e 12, e 13, e 14, e 15, e 16, e 17, e 18, e 19, e 20] ∧ aq_ = ⟨#[.slice (some ⟨gl, 0, none⟩) n c, undef, u2, .int .i64 (i : Int), .pointer (some ⟨xb, 0, none⟩), .int .i64 (k : Int), .int .i64 (u : Int), .slice (some ⟨gl, 0, none⟩) n c, .int .i64 (n : Int), .int .i64 (i : Int), .bool true, .int .i64 (i : Int), .pointer (some ⟨gl, i * 4, none⟩), .agg #[.int .i64 x.b, .int .i64 x.d, .int .i64 x.s, .int .i64 x.i], .int .i64 (i : Int), .int .i64 (k : Int), u16, u17, u18, u19, u20, u21, u22, u23, u24, u25, u26, .bool false, .int .i64 (k : Int), .int .i64 ((k : Int) - 1), .int .i64 (u : Int), t 31, t 32, t 33, t 34, t 35, t 36, t 37, t 38, t 39, t 40, t 41, t 42, t 43, t 44, t 45, t 46, t 47, t 48, t 49, t 50, t 51, u52], []⟩ ∧ Vals (planUp gl n c k u q r x y z) e t ∧ Below w1.heap.size w1 wr) (by kernel_rfl) ?step ?start ?done
            case start => exact ⟨fun _ => false, fun j => if j = 31 then u31 else if j = 32 then u32 else if j = 33 then u33 else if j = 34 then u34 else if j = 35 then u35 else if j = 36 then u36 else if j = 37 then u37 else if j = 38 then u38 else if j = 39 then u39 else if j = 40 then u40 else if j = 41 then u41 else if j = 42 then u42 else if j = 43 then u43 else if j = 44 then u44 else if j = 45 then u45 else if j = 46 then u46 else if j = 47 then u47 else if j = 48 then u48 else if j = 49 then u49 else if j = 50 then u50 else if j = 51 then u51 else undef, rfl, rfl, Vals.start _ _, (Below.refl _ _).drew⟩
            case step =>
              rintro lq_ aq_ wr ⟨e, t, rfl, rfl, hs, hm⟩ q_ o ho hi ha
              match q_, ho, hi, ha with
              | 0, ho, hi, ha =>
                obtain rfl : _ = o := Option.some.inj ho
                have hi : e 0 = false := hi
                refine wpOp_step (i := 0) rfl (fun K hK => ?_)
                have HK : Shut (∀ a w, _ → K a w) := hK
                clear hK ho
                have HS := Lib.hid hs
                have HM := Lib.hid hm
                have HI := Lib.hid hi
                clear hs ha hm hi
                go_simp
                exact HK.out _ _ ⟨upd e 0 true, upd t 31 _, rfl, rfl, by exact HS.out.put ok (i := 0) rfl, HM.out⟩
              | 1, ho, hi, ha =>
                obtain rfl : _ = o := Option.some.inj ho
                have hi : e 1 = false := hi
                have T0 : t 31 = .int .i64 (k : Int) := hs.val 0 rfl (ha { on := 0, ground := .data } (by simp) rfl)
                have H0 := Lib.hid T0
                refine wpOp_step (i := 1) rfl (fun K hK => ?_)
                have HK : Shut (∀ a w, _ → K a w) := hK
                clear hK ho
                have HS := Lib.hid hs
                have HM := Lib.hid hm
                have HI := Lib.hid hi
                clear hs ha hm hi
                go_simp
                exact HK.out _ _ ⟨upd e 1 true, upd (upd t 31 _) 32 _, rfl, rfl, by rw [upd_self H0.out]; exact HS.out.put ok (i := 1) rfl, HM.out⟩
              | 2, ho, hi, ha =>
                obtain rfl : _ = o := Option.some.inj ho
                have hi : e 2 = false := hi
                have T1 : t 32 = .bool true := hs.val 1 rfl (ha { on := 1, ground := .data } (by simp) rfl)
                have H1 := Lib.hid T1
                refine wpOp_step (i := 2) rfl (fun K hK => ?_)
                have HK : Shut (∀ a w, _ → K a w) := hK
                clear hK ho
                have HS := Lib.hid hs
                have HM := Lib.hid hm
                have HI := Lib.hid hi
                clear hs ha hm hi
                go_simp
                exact HK.out _ _ ⟨upd e 2 true, upd (upd t 32 _) 33 _, rfl, rfl, by rw [upd_self H1.out]; exact HS.out.put ok (i := 2) rfl, HM.out⟩
              | 3, ho, hi, ha =>
                obtain rfl : _ = o := Option.some.inj ho
                have hi : e 3 = false := hi
                have T2 : t 33 = .bool true := hs.val 2 rfl (ha { on := 2, ground := .guard } (by simp) rfl)
                have H2 := Lib.hid T2
                obtain ⟨c0, c1, c2, c3, cz⟩ := HEB.out.next hm
                refine wpOp_step (i := 3) rfl (fun K hK => ?_)
                have HK : Shut (∀ a w, _ → K a w) := hK
                clear hK ho
                have HS := Lib.hid hs
                have HM := Lib.hid hm
                have HI := Lib.hid hi
                clear hs ha hm hi
                go_simp
                exact HK.out _ _ ⟨upd e 3 true, upd (upd t 33 _) 34 _, rfl, rfl, by rw [upd_self H2.out]; exact HS.out.put ok (i := 3) rfl, HM.out⟩
              | 4, ho, hi, ha =>
                obtain rfl : _ = o := Option.some.inj ho
                have hi : e 4 = false := hi
                have T2 : t 33 = .bool true := hs.val 2 rfl (ha { on := 2, ground := .guard } (by simp) rfl)
                have H2 := Lib.hid T2
                refine wpOp_step (i := 4) rfl (fun K hK => ?_)
                have HK : Shut (∀ a w, _ → K a w) := hK
                clear hK ho
                have HS := Lib.hid hs
                have HM := Lib.hid hm
                have HI := Lib.hid hi
                clear hs ha hm hi
                go_simp
                exact HK.out _ _ ⟨upd e 4 true, upd (upd t 33 _) 35 _, rfl, rfl, by rw [upd_self H2.out]; exact HS.out.put ok (i := 4) rfl, HM.out⟩
              | 5, ho, hi, ha =>
                obtain rfl : _ = o := Option.some.inj ho
                have hi : e 5 = false := hi
                have T2 : t 33 = .bool true := hs.val 2 rfl (ha { on := 2, ground := .guard } (by simp) rfl)
                have H2 := Lib.hid T2
                refine wpOp_step (i := 5) rfl (fun K hK => ?_)
                have HK : Shut (∀ a w, _ → K a w) := hK
                clear hK ho
                have HS := Lib.hid hs
                have HM := Lib.hid hm
                have HI := Lib.hid hi
                clear hs ha hm hi
                go_simp
                exact HK.out _ _ ⟨upd e 5 true, upd (upd t 33 _) 36 _, rfl, rfl, by rw [upd_self H2.out]; exact HS.out.put ok (i := 5) rfl, HM.out⟩
              | 6, ho, hi, ha =>
                obtain rfl : _ = o := Option.some.inj ho
                have hi : e 6 = false := hi
                have T2 : t 33 = .bool true := hs.val 2 rfl (ha { on := 2, ground := .guard } (by simp) rfl)
                have H2 := Lib.hid T2
                have T5 : t 36 = .int .i64 (u : Int) := hs.val 5 rfl (ha { on := 5, ground := .data } (by simp) rfl)
                have H5 := Lib.hid T5
                refine wpOp_step (i := 6) rfl (fun K hK => ?_)
                have HK : Shut (∀ a w, _ → K a w) := hK
                clear hK ho
                have HS := Lib.hid hs
                have HM := Lib.hid hm
                have HI := Lib.hid hi
                clear hs ha hm hi
                go_simp
                exact HK.out _ _ ⟨upd e 6 true, upd (upd (upd t 33 _) 36 _) 37 _, rfl, rfl, by rw [upd_self H2.out, upd_self H5.out]; exact HS.out.put ok (i := 6) rfl, HM.out⟩
              | 7, ho, hi, ha =>
                obtain rfl : _ = o := Option.some.inj ho
                have hi : e 7 = false := hi
                have T2 : t 33 = .bool true := hs.val 2 rfl (ha { on := 2, ground := .guard } (by simp) rfl)
                have H2 := Lib.hid T2
                have T4 : t 35 = .slice (some ⟨gl, 0, none⟩) n c := hs.val 4 rfl (ha { on := 4, ground := .data } (by simp) rfl)
                have H4 := Lib.hid T4
                have T6 : t 37 = .int .i64 (q : Int) := hs.val 6 rfl (ha { on := 6, ground := .data } (by simp) rfl)
                have H6 := Lib.hid T6
                refine wpOp_step (i := 7) rfl (fun K hK => ?_)
                have HK : Shut (∀ a w, _ → K a w) := hK
                clear hK ho
                have HS := Lib.hid hs
                have HM := Lib.hid hm
                have HI := Lib.hid hi
                clear hs ha hm hi
                go_simp
                exact HK.out _ _ ⟨upd e 7 true, upd (upd (upd (upd t 33 _) 35 _) 37 _) 38 _, rfl, rfl, by rw [upd_self H2.out, upd_self H4.out, upd_self H6.out]; exact HS.out.put ok (i := 7) rfl, HM.out⟩
              | 8, ho, hi, ha =>
                obtain rfl : _ = o := Option.some.inj ho
                have hi : e 8 = false := hi
                have T2 : t 33 = .bool true := hs.val 2 rfl (ha { on := 2, ground := .guard } (by simp) rfl)
                have H2 := Lib.hid T2
                have T7 : t 38 = .pointer (some ⟨gl, q * 4, none⟩) := hs.val 7 rfl (ha { on := 7, ground := .data } (by simp) rfl)
                have H7 := Lib.hid T7
                obtain ⟨c0, c1, c2, c3, cz⟩ := HY.out.next hm
                refine wpOp_step (i := 8) rfl (fun K hK => ?_)
                have HK : Shut (∀ a w, _ → K a w) := hK
                clear hK ho
                have HS := Lib.hid hs
                have HM := Lib.hid hm
                have HI := Lib.hid hi
                clear hs ha hm hi
                go_simp
                exact HK.out _ _ ⟨upd e 8 true, upd (upd (upd t 33 _) 38 _) 39 _, rfl, rfl, by rw [upd_self H2.out, upd_self H7.out]; exact HS.out.put ok (i := 8) rfl, HM.out⟩
              | 9, ho, hi, ha =>
                obtain rfl : _ = o := Option.some.inj ho
                have hi : e 9 = false := hi
                have T2 : t 33 = .bool true := hs.val 2 rfl (ha { on := 2, ground := .guard } (by simp) rfl)
                have H2 := Lib.hid T2
                have T3 : t 34 = .agg #[.int .i64 x.b, .int .i64 x.d, .int .i64 x.s, .int .i64 x.i] := hs.val 3 rfl (ha { on := 3, ground := .data } (by simp) rfl)
                have H3 := Lib.hid T3
                have T8 : t 39 = .agg #[.int .i64 y.b, .int .i64 y.d, .int .i64 y.s, .int .i64 y.i] := hs.val 8 rfl (ha { on := 8, ground := .data } (by simp) rfl)
                have H8 := Lib.hid T8
                refine wpOp_step (i := 9) rfl (fun K hK => ?_)
                have HK : Shut (∀ a w, _ → K a w) := hK
                clear hK ho
                have HS := Lib.hid hs
                have HM := Lib.hid hm
                have HI := Lib.hid hi
                clear hs ha hm hi
                go_simp
                (with_reducible refine (RL _).mono ?_)
                rintro e' w' ⟨rfl, m⟩
                go_wp2_with fail
                exact HK.out _ _ ⟨upd e 9 true, upd (upd (upd (upd t 33 _) 34 _) 39 _) 40 _, rfl, rfl, by rw [upd_self H2.out, upd_self H3.out, upd_self H8.out]; exact HS.out.put ok (i := 9) rfl, HM.out.trans (m.below.mono HM.out.size)⟩
              | 10, ho, hi, ha =>
                obtain rfl : _ = o := Option.some.inj ho
                have hi : e 10 = false := hi
                have T2 : t 33 = .bool true := hs.val 2 rfl (ha { on := 2, ground := .guard } (by simp) rfl)
                have H2 := Lib.hid T2
                have T9 : t 40 = .bool false := hs.val 9 rfl (ha { on := 9, ground := .data } (by simp) rfl)
                have H9 := Lib.hid T9
                refine wpOp_step (i := 10) rfl (fun K hK => ?_)
                have HK : Shut (∀ a w, _ → K a w) := hK
                clear hK ho
                have HS := Lib.hid hs
                have HM := Lib.hid hm
                have HI := Lib.hid hi
                clear hs ha hm hi
                go_simp
                exact HK.out _ _ ⟨upd e 10 true, upd (upd (upd t 33 _) 40 _) 41 _, rfl, rfl, by rw [upd_self H2.out, upd_self H9.out]; exact HS.out.put ok (i := 10) rfl, HM.out⟩
              | 11, ho, hi, ha =>
                obtain rfl : _ = o := Option.some.inj ho
                have hi : e 11 = false := hi
                have T10 : t 41 = .bool false := hs.val 10 rfl (ha { on := 10, ground := .guard } (by simp) rfl)
                have H10 := Lib.hid T10
                refine wpOp_step (i := 11) rfl (fun K hK => ?_)
                have HK : Shut (∀ a w, _ → K a w) := hK
                clear hK ho
                have HS := Lib.hid hs
                have HM := Lib.hid hm
                have HI := Lib.hid hi
                clear hs ha hm hi
                go_simp
                exact HK.out _ _ ⟨upd e 11 true, upd (upd t 41 _) 42 _, rfl, rfl, by rw [upd_self H10.out]; exact HS.out.put ok (i := 11) rfl, HM.out⟩
              | 12, ho, hi, ha =>
                obtain rfl : _ = o := Option.some.inj ho
                have hi : e 12 = false := hi
                have T10 : t 41 = .bool false := hs.val 10 rfl (ha { on := 10, ground := .guard } (by simp) rfl)
                have H10 := Lib.hid T10
                refine wpOp_step (i := 12) rfl (fun K hK => ?_)
                have HK : Shut (∀ a w, _ → K a w) := hK
                clear hK ho
                have HS := Lib.hid hs
                have HM := Lib.hid hm
                have HI := Lib.hid hi
                clear hs ha hm hi
                go_simp
                exact HK.out _ _ ⟨upd e 12 true, upd (upd t 41 _) 43 _, rfl, rfl, by rw [upd_self H10.out]; exact HS.out.put ok (i := 12) rfl, HM.out⟩
              | 13, ho, hi, ha =>
                obtain rfl : _ = o := Option.some.inj ho
                have hi : e 13 = false := hi
                have T10 : t 41 = .bool false := hs.val 10 rfl (ha { on := 10, ground := .guard } (by simp) rfl)
                have H10 := Lib.hid T10
                have T12 : t 43 = .int .i64 (u : Int) := hs.val 12 rfl (ha { on := 12, ground := .data } (by simp) rfl)
                have H12 := Lib.hid T12
                refine wpOp_step (i := 13) rfl (fun K hK => ?_)
                have HK : Shut (∀ a w, _ → K a w) := hK
                clear hK ho
                have HS := Lib.hid hs
                have HM := Lib.hid hm
                have HI := Lib.hid hi
                clear hs ha hm hi
                go_simp
                exact HK.out _ _ ⟨upd e 13 true, upd (upd (upd t 41 _) 43 _) 44 _, rfl, rfl, by rw [upd_self H10.out, upd_self H12.out]; exact HS.out.put ok (i := 13) rfl, HM.out⟩
              | 14, ho, hi, ha =>
                obtain rfl : _ = o := Option.some.inj ho
                have hi : e 14 = false := hi
                have T10 : t 41 = .bool false := hs.val 10 rfl (ha { on := 10, ground := .guard } (by simp) rfl)
                have H10 := Lib.hid T10
                have T13 : t 44 = .int .i64 (q : Int) := hs.val 13 rfl (ha { on := 13, ground := .data } (by simp) rfl)
                have H13 := Lib.hid T13
                refine wpOp_step (i := 14) rfl (fun K hK => ?_)
                have HK : Shut (∀ a w, _ → K a w) := hK
                clear hK ho
                have HS := Lib.hid hs
                have HM := Lib.hid hm
                have HI := Lib.hid hi
                clear hs ha hm hi
                go_simp
                exact HK.out _ _ ⟨upd e 14 true, upd (upd (upd t 41 _) 44 _) 45 _, rfl, rfl, by rw [upd_self H10.out, upd_self H13.out]; exact HS.out.put ok (i := 14) rfl, HM.out⟩
              | 15, ho, hi, ha =>
                obtain rfl : _ = o := Option.some.inj ho
                have hi : e 15 = false := hi
                have T10 : t 41 = .bool false := hs.val 10 rfl (ha { on := 10, ground := .guard } (by simp) rfl)
                have H10 := Lib.hid T10
                have T11 : t 42 = .slice (some ⟨gl, 0, none⟩) n c := hs.val 11 rfl (ha { on := 11, ground := .data } (by simp) rfl)
                have H11 := Lib.hid T11
                have T14 : t 45 = .int .i64 (r : Int) := hs.val 14 rfl (ha { on := 14, ground := .data } (by simp) rfl)
                have H14 := Lib.hid T14
                refine wpOp_step (i := 15) rfl (fun K hK => ?_)
                have HK : Shut (∀ a w, _ → K a w) := hK
                clear hK ho
                have HS := Lib.hid hs
                have HM := Lib.hid hm
                have HI := Lib.hid hi
                clear hs ha hm hi
                go_simp
                exact HK.out _ _ ⟨upd e 15 true, upd (upd (upd (upd t 41 _) 42 _) 45 _) 46 _, rfl, rfl, by rw [upd_self H10.out, upd_self H11.out, upd_self H14.out]; exact HS.out.put ok (i := 15) rfl, HM.out⟩
              | 16, ho, hi, ha =>
                obtain rfl : _ = o := Option.some.inj ho
                have hi : e 16 = false := hi
                have T10 : t 41 = .bool false := hs.val 10 rfl (ha { on := 10, ground := .guard } (by simp) rfl)
                have H10 := Lib.hid T10
                have T15 : t 46 = .pointer (some ⟨gl, r * 4, none⟩) := hs.val 15 rfl (ha { on := 15, ground := .data } (by simp) rfl)
                have H15 := Lib.hid T15
                obtain ⟨c0, c1, c2, c3, cz⟩ := HZ.out.next hm
                refine wpOp_step (i := 16) rfl (fun K hK => ?_)
                have HK : Shut (∀ a w, _ → K a w) := hK
                clear hK ho
                have HS := Lib.hid hs
                have HM := Lib.hid hm
                have HI := Lib.hid hi
                clear hs ha hm hi
                go_simp
                exact HK.out _ _ ⟨upd e 16 true, upd (upd (upd t 41 _) 46 _) 47 _, rfl, rfl, by rw [upd_self H10.out, upd_self H15.out]; exact HS.out.put ok (i := 16) rfl, HM.out⟩
              | 17, ho, hi, ha =>
                obtain rfl : _ = o := Option.some.inj ho
                have hi : e 17 = false := hi
                have T10 : t 41 = .bool false := hs.val 10 rfl (ha { on := 10, ground := .guard } (by simp) rfl)
                have H10 := Lib.hid T10
                obtain ⟨c0, c1, c2, c3, cz⟩ := HEB.out.next hm
                refine wpOp_step (i := 17) rfl (fun K hK => ?_)
                have HK : Shut (∀ a w, _ → K a w) := hK
                clear hK ho
                have HS := Lib.hid hs
                have HM := Lib.hid hm
                have HI := Lib.hid hi
                clear hs ha hm hi
                go_simp
                exact HK.out _ _ ⟨upd e 17 true, upd (upd t 41 _) 48 _, rfl, rfl, by rw [upd_self H10.out]; exact HS.out.put ok (i := 17) rfl, HM.out⟩
              | 18, ho, hi, ha =>
                obtain rfl : _ = o := Option.some.inj ho
                have hi : e 18 = false := hi
                have T10 : t 41 = .bool false := hs.val 10 rfl (ha { on := 10, ground := .guard } (by simp) rfl)
                have H10 := Lib.hid T10
                have T16 : t 47 = .agg #[.int .i64 z.b, .int .i64 z.d, .int .i64 z.s, .int .i64 z.i] := hs.val 16 rfl (ha { on := 16, ground := .data } (by simp) rfl)
                have H16 := Lib.hid T16
                have T17 : t 48 = .agg #[.int .i64 x.b, .int .i64 x.d, .int .i64 x.s, .int .i64 x.i] := hs.val 17 rfl (ha { on := 17, ground := .data } (by simp) rfl)
                have H17 := Lib.hid T17
                refine wpOp_step (i := 18) rfl (fun K hK => ?_)
                have HK : Shut (∀ a w, _ → K a w) := hK
                clear hK ho
                have HS := Lib.hid hs
                have HM := Lib.hid hm
                have HI := Lib.hid hi
                clear hs ha hm hi
                go_simp
                (with_reducible refine (RL2 _).mono ?_)
                rintro e' w' ⟨rfl, m⟩
                go_wp2_with fail
                exact HK.out _ _ ⟨upd e 18 true, upd (upd (upd (upd t 41 _) 47 _) 48 _) 49 _, rfl, rfl, by rw [upd_self H10.out, upd_self H16.out, upd_self H17.out]; exact HS.out.put ok (i := 18) rfl, HM.out.trans (m.below.mono HM.out.size)⟩
              | 19, ho, hi, ha =>
                obtain rfl : _ = o := Option.some.inj ho
                have hi : e 19 = false := hi
                have T2 : t 33 = .bool true := hs.val 2 rfl (ha { on := 2, ground := .guard } (by simp) rfl)
                have H2 := Lib.hid T2
                have T10 : t 41 = .bool false := hs.val 10 rfl (ha { on := 10, ground := .data } (by simp) rfl)
                have H10 := Lib.hid T10
                have T18 : t 49 = .bool false := hs.val 18 rfl (ha { on := 18, ground := .data } (by simp) rfl)
                have H18 := Lib.hid T18
                refine wpOp_step (i := 19) rfl (fun K hK => ?_)
                have HK : Shut (∀ a w, _ → K a w) := hK
                clear hK ho
                have HS := Lib.hid hs
                have HM := Lib.hid hm
                have HI := Lib.hid hi
                clear hs ha hm hi
                go_simp
                exact HK.out _ _ ⟨upd e 19 true, upd (upd (upd (upd t 33 _) 41 _) 49 _) 50 _, rfl, rfl, by rw [upd_self H2.out, upd_self H10.out, upd_self H18.out]; exact HS.out.put ok (i := 19) rfl, HM.out⟩
              | 20, ho, hi, ha =>
                obtain rfl : _ = o := Option.some.inj ho
                have hi : e 20 = false := hi
                have T2 : t 33 = .bool true := hs.val 2 rfl (ha { on := 2, ground := .data } (by simp) rfl)
                have H2 := Lib.hid T2
                have T19 : t 50 = .bool false := hs.val 19 rfl (ha { on := 19, ground := .data } (by simp) rfl)
                have H19 := Lib.hid T19
                refine wpOp_step (i := 20) rfl (fun K hK => ?_)
                have HK : Shut (∀ a w, _ → K a w) := hK
                clear hK ho
                have HS := Lib.hid hs
                have HM := Lib.hid hm
                have HI := Lib.hid hi
                clear hs ha hm hi
                go_simp
                exact HK.out _ _ ⟨upd e 20 true, upd (upd (upd t 33 _) 50 _) 51 _, rfl, rfl, by rw [upd_self H2.out, upd_self H19.out]; exact HS.out.put ok (i := 20) rfl, HM.out⟩
              | k + 21, ho, hi, ha => simp at ho
            case done =>
              rintro lq_ aq_ wr ⟨e, t, rfl, rfl, hs, hm⟩ hr
              have hd := ready_done hr rfl (by decide +kernel)
              have e20 : t 51 = .bool false := hs.val 20 rfl (hd 20 (by decide))
              rw [e20]
              generalize t 31 = u31, t 32 = u32, t 33 = u33, t 34 = u34, t 35 = u35, t 36 = u36, t 37 = u37, t 38 = u38, t 39 = u39, t 40 = u40, t 41 = u41, t 42 = u42, t 43 = u43, t 44 = u44, t 45 = u45, t 46 = u46, t 47 = u47, t 48 = u48, t 49 = u49, t 50 = u50
              have HB3 := Lib.hid (HB2.out.trans (hm.mono HB2.out.size))
              clear hs hd hr e20 hm
              go_wp2
              go_roundw
              case rel => exact ⟨i + 1, by omega, by go_num, HB3.out⟩
              case measure => simp [intOf]; omega
          · obtain rfl : k = 0 := by omega
            rw [show ((0 : Nat) : Int) = 0 from rfl]
            clear ek'
            go_wp2
            have ok : (planTop ).ok = true := rfl
            refine region_inv (Inv := fun lq_ aq_ wr => ∃ (e : Nat → Bool) (t : Nat → Value), lq_ = #[e 0, e 1, e 2, e 3, e 4, e 5, e 6, e 7, e 8, e 9, e 10, e 11, e 12, e 13, e 14, e 15, e 16, e 17, e 18, e 19, e 20] ∧ aq_ = ⟨#[.slice (some ⟨gl, 0, none⟩) n c, undef, u2, .int .i64 (i : Int), .pointer (some ⟨xb, 0, none⟩), .int .i64 0, .int .i64 0, .slice (some ⟨gl, 0, none⟩) n c, .int .i64 (n : Int), .int .i64 (i : Int), .bool true, .int .i64 (i : Int), .pointer (some ⟨gl, i * 4, none⟩), .agg #[.int .i64 x.b, .int .i64 x.d, .int .i64 x.s, .int .i64 x.i], .int .i64 (i : Int), .int .i64 0, u16, u17, u18, u19, u20, u21, u22, u23, u24, u25, u26, .bool false, .int .i64 0, .int .i64 (-1), .int .i64 0, t 31, t 32, t 33, t 34, t 35, t 36, t 37, t 38, t 39, t 40, t 41, t 42, t 43, t 44, t 45, t 46, t 47, t 48, t 49, t 50, t 51, u52], []⟩ ∧ Vals (planTop ) e t ∧ Below w1.heap.size w1 wr) (by kernel_rfl) ?step ?start ?done
            case start => exact ⟨fun _ => false, fun j => if j = 31 then u31 else if j = 32 then u32 else if j = 33 then u33 else if j = 34 then u34 else if j = 35 then u35 else if j = 36 then u36 else if j = 37 then u37 else if j = 38 then u38 else if j = 39 then u39 else if j = 40 then u40 else if j = 41 then u41 else if j = 42 then u42 else if j = 43 then u43 else if j = 44 then u44 else if j = 45 then u45 else if j = 46 then u46 else if j = 47 then u47 else if j = 48 then u48 else if j = 49 then u49 else if j = 50 then u50 else if j = 51 then u51 else undef, rfl, rfl, Vals.start _ _, (Below.refl _ _).drew⟩
            case step =>
              rintro lq_ aq_ wr ⟨e, t, rfl, rfl, hs, hm⟩ q_ o ho hi ha
              match q_, ho, hi, ha with
              | 0, ho, hi, ha =>
                obtain rfl : _ = o := Option.some.inj ho
                have hi : e 0 = false := hi
                refine wpOp_step (i := 0) rfl (fun K hK => ?_)
                have HK : Shut (∀ a w, _ → K a w) := hK
                clear hK ho
                have HS := Lib.hid hs
                have HM := Lib.hid hm
                have HI := Lib.hid hi
                clear hs ha hm hi
                go_simp
                exact HK.out _ _ ⟨upd e 0 true, upd t 31 _, rfl, rfl, by exact HS.out.put ok (i := 0) rfl, HM.out⟩
              | 1, ho, hi, ha =>
                obtain rfl : _ = o := Option.some.inj ho
                have hi : e 1 = false := hi
                have T0 : t 31 = .int .i64 0 := hs.val 0 rfl (ha { on := 0, ground := .data } (by simp) rfl)
                have H0 := Lib.hid T0
                refine wpOp_step (i := 1) rfl (fun K hK => ?_)
                have HK : Shut (∀ a w, _ → K a w) := hK
                clear hK ho
                have HS := Lib.hid hs
                have HM := Lib.hid hm
                have HI := Lib.hid hi
                clear hs ha hm hi
                go_simp
                exact HK.out _ _ ⟨upd e 1 true, upd (upd t 31 _) 32 _, rfl, rfl, by rw [upd_self H0.out]; exact HS.out.put ok (i := 1) rfl, HM.out⟩
              | 2, ho, hi, ha =>
                obtain rfl : _ = o := Option.some.inj ho
                have hi : e 2 = false := hi
                have T1 : t 32 = .bool false := hs.val 1 rfl (ha { on := 1, ground := .data } (by simp) rfl)
                have H1 := Lib.hid T1
                refine wpOp_step (i := 2) rfl (fun K hK => ?_)
                have HK : Shut (∀ a w, _ → K a w) := hK
                clear hK ho
                have HS := Lib.hid hs
                have HM := Lib.hid hm
                have HI := Lib.hid hi
                clear hs ha hm hi
                go_simp
                exact HK.out _ _ ⟨upd e 2 true, upd (upd t 32 _) 33 _, rfl, rfl, by rw [upd_self H1.out]; exact HS.out.put ok (i := 2) rfl, HM.out⟩
              | 3, ho, hi, ha =>
                obtain rfl : _ = o := Option.some.inj ho
                have hi : e 3 = false := hi
                have T2 : t 33 = .bool false := hs.val 2 rfl (ha { on := 2, ground := .guard } (by simp) rfl)
                have H2 := Lib.hid T2
                refine wpOp_step (i := 3) rfl (fun K hK => ?_)
                have HK : Shut (∀ a w, _ → K a w) := hK
                clear hK ho
                have HS := Lib.hid hs
                have HM := Lib.hid hm
                have HI := Lib.hid hi
                clear hs ha hm hi
                go_simp
                exact HK.out _ _ ⟨upd e 3 true, upd (upd t 33 _) 34 _, rfl, rfl, by rw [upd_self H2.out]; exact HS.out.put ok (i := 3) rfl, HM.out⟩
              | 4, ho, hi, ha =>
                obtain rfl : _ = o := Option.some.inj ho
                have hi : e 4 = false := hi
                have T2 : t 33 = .bool false := hs.val 2 rfl (ha { on := 2, ground := .guard } (by simp) rfl)
                have H2 := Lib.hid T2
                refine wpOp_step (i := 4) rfl (fun K hK => ?_)
                have HK : Shut (∀ a w, _ → K a w) := hK
                clear hK ho
                have HS := Lib.hid hs
                have HM := Lib.hid hm
                have HI := Lib.hid hi
                clear hs ha hm hi
                go_simp
                exact HK.out _ _ ⟨upd e 4 true, upd (upd t 33 _) 35 _, rfl, rfl, by rw [upd_self H2.out]; exact HS.out.put ok (i := 4) rfl, HM.out⟩
              | 5, ho, hi, ha =>
                obtain rfl : _ = o := Option.some.inj ho
                have hi : e 5 = false := hi
                have T2 : t 33 = .bool false := hs.val 2 rfl (ha { on := 2, ground := .guard } (by simp) rfl)
                have H2 := Lib.hid T2
                refine wpOp_step (i := 5) rfl (fun K hK => ?_)
                have HK : Shut (∀ a w, _ → K a w) := hK
                clear hK ho
                have HS := Lib.hid hs
                have HM := Lib.hid hm
                have HI := Lib.hid hi
                clear hs ha hm hi
                go_simp
                exact HK.out _ _ ⟨upd e 5 true, upd (upd t 33 _) 36 _, rfl, rfl, by rw [upd_self H2.out]; exact HS.out.put ok (i := 5) rfl, HM.out⟩
              | 6, ho, hi, ha =>
                obtain rfl : _ = o := Option.some.inj ho
                have hi : e 6 = false := hi
                have T2 : t 33 = .bool false := hs.val 2 rfl (ha { on := 2, ground := .guard } (by simp) rfl)
                have H2 := Lib.hid T2
                refine wpOp_step (i := 6) rfl (fun K hK => ?_)
                have HK : Shut (∀ a w, _ → K a w) := hK
                clear hK ho
                have HS := Lib.hid hs
                have HM := Lib.hid hm
                have HI := Lib.hid hi
                clear hs ha hm hi
                go_simp
                exact HK.out _ _ ⟨upd e 6 true, upd (upd t 33 _) 37 _, rfl, rfl, by rw [upd_self H2.out]; exact HS.out.put ok (i := 6) rfl, HM.out⟩
              | 7, ho, hi, ha =>
                obtain rfl : _ = o := Option.some.inj ho
                have hi : e 7 = false := hi
                have T2 : t 33 = .bool false := hs.val 2 rfl (ha { on := 2, ground := .guard } (by simp) rfl)
                have H2 := Lib.hid T2
                refine wpOp_step (i := 7) rfl (fun K hK => ?_)
                have HK : Shut (∀ a w, _ → K a w) := hK
                clear hK ho
                have HS := Lib.hid hs
                have HM := Lib.hid hm
                have HI := Lib.hid hi
                clear hs ha hm hi
                go_simp
                exact HK.out _ _ ⟨upd e 7 true, upd (upd t 33 _) 38 _, rfl, rfl, by rw [upd_self H2.out]; exact HS.out.put ok (i := 7) rfl, HM.out⟩
              | 8, ho, hi, ha =>
                obtain rfl : _ = o := Option.some.inj ho
                have hi : e 8 = false := hi
                have T2 : t 33 = .bool false := hs.val 2 rfl (ha { on := 2, ground := .guard } (by simp) rfl)
                have H2 := Lib.hid T2
                refine wpOp_step (i := 8) rfl (fun K hK => ?_)
                have HK : Shut (∀ a w, _ → K a w) := hK
                clear hK ho
                have HS := Lib.hid hs
                have HM := Lib.hid hm
                have HI := Lib.hid hi
                clear hs ha hm hi
                go_simp
                exact HK.out _ _ ⟨upd e 8 true, upd (upd t 33 _) 39 _, rfl, rfl, by rw [upd_self H2.out]; exact HS.out.put ok (i := 8) rfl, HM.out⟩
              | 9, ho, hi, ha =>
                obtain rfl : _ = o := Option.some.inj ho
                have hi : e 9 = false := hi
                have T2 : t 33 = .bool false := hs.val 2 rfl (ha { on := 2, ground := .guard } (by simp) rfl)
                have H2 := Lib.hid T2
                refine wpOp_step (i := 9) rfl (fun K hK => ?_)
                have HK : Shut (∀ a w, _ → K a w) := hK
                clear hK ho
                have HS := Lib.hid hs
                have HM := Lib.hid hm
                have HI := Lib.hid hi
                clear hs ha hm hi
                go_simp
                exact HK.out _ _ ⟨upd e 9 true, upd (upd t 33 _) 40 _, rfl, rfl, by rw [upd_self H2.out]; exact HS.out.put ok (i := 9) rfl, HM.out⟩
              | 10, ho, hi, ha =>
                obtain rfl : _ = o := Option.some.inj ho
                have hi : e 10 = false := hi
                have T2 : t 33 = .bool false := hs.val 2 rfl (ha { on := 2, ground := .guard } (by simp) rfl)
                have H2 := Lib.hid T2
                refine wpOp_step (i := 10) rfl (fun K hK => ?_)
                have HK : Shut (∀ a w, _ → K a w) := hK
                clear hK ho
                have HS := Lib.hid hs
                have HM := Lib.hid hm
                have HI := Lib.hid hi
                clear hs ha hm hi
                go_simp
                exact HK.out _ _ ⟨upd e 10 true, upd (upd t 33 _) 41 _, rfl, rfl, by rw [upd_self H2.out]; exact HS.out.put ok (i := 10) rfl, HM.out⟩
              | 11, ho, hi, ha =>
                obtain rfl : _ = o := Option.some.inj ho
                have hi : e 11 = false := hi
                have T10 : t 41 = .tuple #[] := hs.val 10 rfl (ha { on := 10, ground := .guard } (by simp) rfl)
                have H10 := Lib.hid T10
                refine wpOp_step (i := 11) rfl (fun K hK => ?_)
                have HK : Shut (∀ a w, _ → K a w) := hK
                clear hK ho
                have HS := Lib.hid hs
                have HM := Lib.hid hm
                have HI := Lib.hid hi
                clear hs ha hm hi
                go_simp
                exact HK.out _ _ ⟨upd e 11 true, upd (upd t 41 _) 42 _, rfl, rfl, by rw [upd_self H10.out]; exact HS.out.put ok (i := 11) rfl, HM.out⟩
              | 12, ho, hi, ha =>
                obtain rfl : _ = o := Option.some.inj ho
                have hi : e 12 = false := hi
                have T10 : t 41 = .tuple #[] := hs.val 10 rfl (ha { on := 10, ground := .guard } (by simp) rfl)
                have H10 := Lib.hid T10
                refine wpOp_step (i := 12) rfl (fun K hK => ?_)
                have HK : Shut (∀ a w, _ → K a w) := hK
                clear hK ho
                have HS := Lib.hid hs
                have HM := Lib.hid hm
                have HI := Lib.hid hi
                clear hs ha hm hi
                go_simp
                exact HK.out _ _ ⟨upd e 12 true, upd (upd t 41 _) 43 _, rfl, rfl, by rw [upd_self H10.out]; exact HS.out.put ok (i := 12) rfl, HM.out⟩
              | 13, ho, hi, ha =>
                obtain rfl : _ = o := Option.some.inj ho
                have hi : e 13 = false := hi
                have T10 : t 41 = .tuple #[] := hs.val 10 rfl (ha { on := 10, ground := .guard } (by simp) rfl)
                have H10 := Lib.hid T10
                refine wpOp_step (i := 13) rfl (fun K hK => ?_)
                have HK : Shut (∀ a w, _ → K a w) := hK
                clear hK ho
                have HS := Lib.hid hs
                have HM := Lib.hid hm
                have HI := Lib.hid hi
                clear hs ha hm hi
                go_simp
                exact HK.out _ _ ⟨upd e 13 true, upd (upd t 41 _) 44 _, rfl, rfl, by rw [upd_self H10.out]; exact HS.out.put ok (i := 13) rfl, HM.out⟩
              | 14, ho, hi, ha =>
                obtain rfl : _ = o := Option.some.inj ho
                have hi : e 14 = false := hi
                have T10 : t 41 = .tuple #[] := hs.val 10 rfl (ha { on := 10, ground := .guard } (by simp) rfl)
                have H10 := Lib.hid T10
                refine wpOp_step (i := 14) rfl (fun K hK => ?_)
                have HK : Shut (∀ a w, _ → K a w) := hK
                clear hK ho
                have HS := Lib.hid hs
                have HM := Lib.hid hm
                have HI := Lib.hid hi
                clear hs ha hm hi
                go_simp
                exact HK.out _ _ ⟨upd e 14 true, upd (upd t 41 _) 45 _, rfl, rfl, by rw [upd_self H10.out]; exact HS.out.put ok (i := 14) rfl, HM.out⟩
              | 15, ho, hi, ha =>
                obtain rfl : _ = o := Option.some.inj ho
                have hi : e 15 = false := hi
                have T10 : t 41 = .tuple #[] := hs.val 10 rfl (ha { on := 10, ground := .guard } (by simp) rfl)
                have H10 := Lib.hid T10
                refine wpOp_step (i := 15) rfl (fun K hK => ?_)
                have HK : Shut (∀ a w, _ → K a w) := hK
                clear hK ho
                have HS := Lib.hid hs
                have HM := Lib.hid hm
                have HI := Lib.hid hi
                clear hs ha hm hi
                go_simp
                exact HK.out _ _ ⟨upd e 15 true, upd (upd t 41 _) 46 _, rfl, rfl, by rw [upd_self H10.out]; exact HS.out.put ok (i := 15) rfl, HM.out⟩
              | 16, ho, hi, ha =>
                obtain rfl : _ = o := Option.some.inj ho
                have hi : e 16 = false := hi
                have T10 : t 41 = .tuple #[] := hs.val 10 rfl (ha { on := 10, ground := .guard } (by simp) rfl)
                have H10 := Lib.hid T10
                refine wpOp_step (i := 16) rfl (fun K hK => ?_)
                have HK : Shut (∀ a w, _ → K a w) := hK
                clear hK ho
                have HS := Lib.hid hs
                have HM := Lib.hid hm
                have HI := Lib.hid hi
                clear hs ha hm hi
                go_simp
                exact HK.out _ _ ⟨upd e 16 true, upd (upd t 41 _) 47 _, rfl, rfl, by rw [upd_self H10.out]; exact HS.out.put ok (i := 16) rfl, HM.out⟩
              | 17, ho, hi, ha =>
                obtain rfl : _ = o := Option.some.inj ho
                have hi : e 17 = false := hi
                have T10 : t 41 = .tuple #[] := hs.val 10 rfl (ha { on := 10, ground := .guard } (by simp) rfl)
                have H10 := Lib.hid T10
                refine wpOp_step (i := 17) rfl (fun K hK => ?_)
                have HK : Shut (∀ a w, _ → K a w) := hK
                clear hK ho
                have HS := Lib.hid hs
                have HM := Lib.hid hm
                have HI := Lib.hid hi
                clear hs ha hm hi
                go_simp
                exact HK.out _ _ ⟨upd e 17 true, upd (upd t 41 _) 48 _, rfl, rfl, by rw [upd_self H10.out]; exact HS.out.put ok (i := 17) rfl, HM.out⟩
              | 18, ho, hi, ha =>
                obtain rfl : _ = o := Option.some.inj ho
                have hi : e 18 = false := hi
                have T10 : t 41 = .tuple #[] := hs.val 10 rfl (ha { on := 10, ground := .guard } (by simp) rfl)
                have H10 := Lib.hid T10
                refine wpOp_step (i := 18) rfl (fun K hK => ?_)
                have HK : Shut (∀ a w, _ → K a w) := hK
                clear hK ho
                have HS := Lib.hid hs
                have HM := Lib.hid hm
                have HI := Lib.hid hi
                clear hs ha hm hi
                go_simp
                exact HK.out _ _ ⟨upd e 18 true, upd (upd t 41 _) 49 _, rfl, rfl, by rw [upd_self H10.out]; exact HS.out.put ok (i := 18) rfl, HM.out⟩
              | 19, ho, hi, ha =>
                obtain rfl : _ = o := Option.some.inj ho
                have hi : e 19 = false := hi
                have T2 : t 33 = .bool false := hs.val 2 rfl (ha { on := 2, ground := .guard } (by simp) rfl)
                have H2 := Lib.hid T2
                refine wpOp_step (i := 19) rfl (fun K hK => ?_)
                have HK : Shut (∀ a w, _ → K a w) := hK
                clear hK ho
                have HS := Lib.hid hs
                have HM := Lib.hid hm
                have HI := Lib.hid hi
                clear hs ha hm hi
                go_simp
                exact HK.out _ _ ⟨upd e 19 true, upd (upd t 33 _) 50 _, rfl, rfl, by rw [upd_self H2.out]; exact HS.out.put ok (i := 19) rfl, HM.out⟩
              | 20, ho, hi, ha =>
                obtain rfl : _ = o := Option.some.inj ho
                have hi : e 20 = false := hi
                have T2 : t 33 = .bool false := hs.val 2 rfl (ha { on := 2, ground := .data } (by simp) rfl)
                have H2 := Lib.hid T2
                refine wpOp_step (i := 20) rfl (fun K hK => ?_)
                have HK : Shut (∀ a w, _ → K a w) := hK
                clear hK ho
                have HS := Lib.hid hs
                have HM := Lib.hid hm
                have HI := Lib.hid hi
                clear hs ha hm hi
                go_simp
                exact HK.out _ _ ⟨upd e 20 true, upd (upd t 33 _) 51 _, rfl, rfl, by rw [upd_self H2.out]; exact HS.out.put ok (i := 20) rfl, HM.out⟩
              | k + 21, ho, hi, ha => simp at ho
            case done =>
              rintro lq_ aq_ wr ⟨e, t, rfl, rfl, hs, hm⟩ hr
              have hd := ready_done hr rfl (by decide +kernel)
              have e20 : t 51 = .bool false := hs.val 20 rfl (hd 20 (by decide))
              rw [e20]
              generalize t 31 = u31, t 32 = u32, t 33 = u33, t 34 = u34, t 35 = u35, t 36 = u36, t 37 = u37, t 38 = u38, t 39 = u39, t 40 = u40, t 41 = u41, t 42 = u42, t 43 = u43, t 44 = u44, t 45 = u45, t 46 = u46, t 47 = u47, t 48 = u48, t 49 = u49, t 50 = u50
              have HB3 := Lib.hid (HB2.out.trans (hm.mono HB2.out.size))
              clear hs hd hr e20 hm
              go_wp2
              go_roundw
              case rel => exact ⟨i + 1, by omega, by go_num, HB3.out⟩
              case measure => simp [intOf]; omega
      · have em : (i : Int).tmod 2 = 0 := by rw [Int.tmod_eq_emod_of_nonneg c01]; omega
        clear HPA ho
        go_wp2
        clear a0 a1 a2 a3 hxb
        generalize (wr.alloc (.cells #[.int .i64 x.b, .int .i64 x.d, .int .i64 x.s, .int .i64 x.i] 39)) = ws at *
        have ok : (planEven i).ok = true := rfl
        refine region_inv (Inv := fun lq_ aq_ wr => ∃ (e : Nat → Bool) (t : Nat → Value), lq_ = #[e 0, e 1, e 2, e 3, e 4, e 5, e 6, e 7, e 8, e 9, e 10, e 11] ∧ aq_ = ⟨#[.slice (some ⟨gl, 0, none⟩) n c, undef, u2, .int .i64 (i : Int), .pointer (some ⟨xb, 0, none⟩), .int .i64 (k : Int), u6, .slice (some ⟨gl, 0, none⟩) n c, .int .i64 (n : Int), .int .i64 (i : Int), .bool true, .int .i64 (i : Int), .pointer (some ⟨gl, i * 4, none⟩), .agg #[.int .i64 x.b, .int .i64 x.d, .int .i64 x.s, .int .i64 x.i], .int .i64 (i : Int), .int .i64 (k : Int), t 16, t 17, t 18, t 19, t 20, t 21, t 22, t 23, t 24, t 25, t 26, t 27, u28, u29, u30, u31, u32, u33, u34, u35, u36, u37, u38, u39, u40, u41, u42, u43, u44, u45, u46, u47, u48, u49, u50, u51, u52], []⟩ ∧ Vals (planEven i) e t ∧ Below ws.heap.size ws wr) (by kernel_rfl) ?step ?start ?done
        case start => exact ⟨fun _ => false, fun j => if j = 16 then u16 else if j = 17 then u17 else if j = 18 then u18 else if j = 19 then u19 else if j = 20 then u20 else if j = 21 then u21 else if j = 22 then u22 else if j = 23 then u23 else if j = 24 then u24 else if j = 25 then u25 else if j = 26 then u26 else if j = 27 then u27 else undef, rfl, rfl, Vals.start _ _, (Below.refl _ _).drew⟩
        case step =>
          rintro lq_ aq_ wr ⟨e, t, rfl, rfl, hs, hm⟩ q_ o ho hi ha
          match q_, ho, hi, ha with
          | 0, ho, hi, ha =>
            obtain rfl : _ = o := Option.some.inj ho
            have hi : e 0 = false := hi
            refine wpOp_step (i := 0) rfl (fun K hK => ?_)
            have HK : Shut (∀ a w, _ → K a w) := hK
            clear hK ho
            have HS := Lib.hid hs
            have HM := Lib.hid hm
            have HI := Lib.hid hi
            clear hs ha hm hi
            go_simp
            exact HK.out _ _ ⟨upd e 0 true, upd t 16 _, rfl, rfl, by exact HS.out.put ok (i := 0) rfl, HM.out⟩
          | 1, ho, hi, ha =>
            obtain rfl : _ = o := Option.some.inj ho
            have hi : e 1 = false := hi
            have T0 : t 16 = .int .i64 (i : Int) := hs.val 0 rfl (ha { on := 0, ground := .data } (by simp) rfl)
            have H0 := Lib.hid T0
            refine wpOp_step (i := 1) rfl (fun K hK => ?_)
            have HK : Shut (∀ a w, _ → K a w) := hK
            clear hK ho
            have HS := Lib.hid hs
            have HM := Lib.hid hm
            have HI := Lib.hid hi
            clear hs ha hm hi
            go_simp
            exact HK.out _ _ ⟨upd e 1 true, upd (upd t 16 _) 17 _, rfl, rfl, by rw [upd_self H0.out]; exact HS.out.put ok (i := 1) rfl, HM.out⟩
          | 2, ho, hi, ha =>
            obtain rfl : _ = o := Option.some.inj ho
            have hi : e 2 = false := hi
            have T1 : t 17 = .int .i64 0 := hs.val 1 rfl (ha { on := 1, ground := .data } (by simp) rfl)
            have H1 := Lib.hid T1
            refine wpOp_step (i := 2) rfl (fun K hK => ?_)
            have HK : Shut (∀ a w, _ → K a w) := hK
            clear hK ho
            have HS := Lib.hid hs
            have HM := Lib.hid hm
            have HI := Lib.hid hi
            clear hs ha hm hi
            go_simp
            exact HK.out _ _ ⟨upd e 2 true, upd (upd t 17 _) 18 _, rfl, rfl, by rw [upd_self H1.out]; exact HS.out.put ok (i := 2) rfl, HM.out⟩
          | 3, ho, hi, ha =>
            obtain rfl : _ = o := Option.some.inj ho
            have hi : e 3 = false := hi
            have T2 : t 18 = .bool false := hs.val 2 rfl (ha { on := 2, ground := .data } (by simp) rfl)
            have H2 := Lib.hid T2
            refine wpOp_step (i := 3) rfl (fun K hK => ?_)
            have HK : Shut (∀ a w, _ → K a w) := hK
            clear hK ho
            have HS := Lib.hid hs
            have HM := Lib.hid hm
            have HI := Lib.hid hi
            clear hs ha hm hi
            go_simp
            exact HK.out _ _ ⟨upd e 3 true, upd (upd t 18 _) 19 _, rfl, rfl, by rw [upd_self H2.out]; exact HS.out.put ok (i := 3) rfl, HM.out⟩
          | 4, ho, hi, ha =>
            obtain rfl : _ = o := Option.some.inj ho
            have hi : e 4 = false := hi
            have T3 : t 19 = .bool false := hs.val 3 rfl (ha { on := 3, ground := .guard } (by simp) rfl)
            have H3 := Lib.hid T3
            refine wpOp_step (i := 4) rfl (fun K hK => ?_)
            have HK : Shut (∀ a w, _ → K a w) := hK
            clear hK ho
            have HS := Lib.hid hs
            have HM := Lib.hid hm
            have HI := Lib.hid hi
            clear hs ha hm hi
            go_simp
            exact HK.out _ _ ⟨upd e 4 true, upd (upd t 19 _) 20 _, rfl, rfl, by rw [upd_self H3.out]; exact HS.out.put ok (i := 4) rfl, HM.out⟩
          | 5, ho, hi, ha =>
            obtain rfl : _ = o := Option.some.inj ho
            have hi : e 5 = false := hi
            have T3 : t 19 = .bool false := hs.val 3 rfl (ha { on := 3, ground := .guard } (by simp) rfl)
            have H3 := Lib.hid T3
            refine wpOp_step (i := 5) rfl (fun K hK => ?_)
            have HK : Shut (∀ a w, _ → K a w) := hK
            clear hK ho
            have HS := Lib.hid hs
            have HM := Lib.hid hm
            have HI := Lib.hid hi
            clear hs ha hm hi
            go_simp
            exact HK.out _ _ ⟨upd e 5 true, upd (upd t 19 _) 21 _, rfl, rfl, by rw [upd_self H3.out]; exact HS.out.put ok (i := 5) rfl, HM.out⟩
          | 6, ho, hi, ha =>
            obtain rfl : _ = o := Option.some.inj ho
            have hi : e 6 = false := hi
            have T3 : t 19 = .bool false := hs.val 3 rfl (ha { on := 3, ground := .guard } (by simp) rfl)
            have H3 := Lib.hid T3
            refine wpOp_step (i := 6) rfl (fun K hK => ?_)
            have HK : Shut (∀ a w, _ → K a w) := hK
            clear hK ho
            have HS := Lib.hid hs
            have HM := Lib.hid hm
            have HI := Lib.hid hi
            clear hs ha hm hi
            go_simp
            exact HK.out _ _ ⟨upd e 6 true, upd (upd t 19 _) 22 _, rfl, rfl, by rw [upd_self H3.out]; exact HS.out.put ok (i := 6) rfl, HM.out⟩
          | 7, ho, hi, ha =>
            obtain rfl : _ = o := Option.some.inj ho
            have hi : e 7 = false := hi
            have T3 : t 19 = .bool false := hs.val 3 rfl (ha { on := 3, ground := .guard } (by simp) rfl)
            have H3 := Lib.hid T3
            refine wpOp_step (i := 7) rfl (fun K hK => ?_)
            have HK : Shut (∀ a w, _ → K a w) := hK
            clear hK ho
            have HS := Lib.hid hs
            have HM := Lib.hid hm
            have HI := Lib.hid hi
            clear hs ha hm hi
            go_simp
            exact HK.out _ _ ⟨upd e 7 true, upd (upd t 19 _) 23 _, rfl, rfl, by rw [upd_self H3.out]; exact HS.out.put ok (i := 7) rfl, HM.out⟩
          | 8, ho, hi, ha =>
            obtain rfl : _ = o := Option.some.inj ho
            have hi : e 8 = false := hi
            have T3 : t 19 = .bool false := hs.val 3 rfl (ha { on := 3, ground := .guard } (by simp) rfl)
            have H3 := Lib.hid T3
            refine wpOp_step (i := 8) rfl (fun K hK => ?_)
            have HK : Shut (∀ a w, _ → K a w) := hK
            clear hK ho
            have HS := Lib.hid hs
            have HM := Lib.hid hm
            have HI := Lib.hid hi
            clear hs ha hm hi
            go_simp
            exact HK.out _ _ ⟨upd e 8 true, upd (upd t 19 _) 24 _, rfl, rfl, by rw [upd_self H3.out]; exact HS.out.put ok (i := 8) rfl, HM.out⟩
          | 9, ho, hi, ha =>
            obtain rfl : _ = o := Option.some.inj ho
            have hi : e 9 = false := hi
            have T3 : t 19 = .bool false := hs.val 3 rfl (ha { on := 3, ground := .guard } (by simp) rfl)
            have H3 := Lib.hid T3
            refine wpOp_step (i := 9) rfl (fun K hK => ?_)
            have HK : Shut (∀ a w, _ → K a w) := hK
            clear hK ho
            have HS := Lib.hid hs
            have HM := Lib.hid hm
            have HI := Lib.hid hi
            clear hs ha hm hi
            go_simp
            exact HK.out _ _ ⟨upd e 9 true, upd (upd t 19 _) 25 _, rfl, rfl, by rw [upd_self H3.out]; exact HS.out.put ok (i := 9) rfl, HM.out⟩
          | 10, ho, hi, ha =>
            obtain rfl : _ = o := Option.some.inj ho
            have hi : e 10 = false := hi
            have T3 : t 19 = .bool false := hs.val 3 rfl (ha { on := 3, ground := .guard } (by simp) rfl)
            have H3 := Lib.hid T3
            refine wpOp_step (i := 10) rfl (fun K hK => ?_)
            have HK : Shut (∀ a w, _ → K a w) := hK
            clear hK ho
            have HS := Lib.hid hs
            have HM := Lib.hid hm
            have HI := Lib.hid hi
            clear hs ha hm hi
            go_simp
            exact HK.out _ _ ⟨upd e 10 true, upd (upd t 19 _) 26 _, rfl, rfl, by rw [upd_self H3.out]; exact HS.out.put ok (i := 10) rfl, HM.out⟩
          | 11, ho, hi, ha =>
            obtain rfl : _ = o := Option.some.inj ho
            have hi : e 11 = false := hi
            have T3 : t 19 = .bool false := hs.val 3 rfl (ha { on := 3, ground := .data } (by simp) rfl)
            have H3 := Lib.hid T3
            refine wpOp_step (i := 11) rfl (fun K hK => ?_)
            have HK : Shut (∀ a w, _ → K a w) := hK
            clear hK ho
            have HS := Lib.hid hs
            have HM := Lib.hid hm
            have HI := Lib.hid hi
            clear hs ha hm hi
            go_simp
            exact HK.out _ _ ⟨upd e 11 true, upd (upd t 19 _) 27 _, rfl, rfl, by rw [upd_self H3.out]; exact HS.out.put ok (i := 11) rfl, HM.out⟩
          | k + 12, ho, hi, ha => simp at ho
        case done =>
          rintro lq_ aq_ wr ⟨e, t, rfl, rfl, hs, hm⟩ hr
          have hd := ready_done hr rfl (by decide +kernel)
          have e11 : t 27 = .bool false := hs.val 11 rfl (hd 11 (by decide))
          rw [e11]
          generalize t 16 = u16, t 17 = u17, t 18 = u18, t 19 = u19, t 20 = u20, t 21 = u21, t 22 = u22, t 23 = u23, t 24 = u24, t 25 = u25, t 26 = u26
          have HB1 := Lib.hid hm
          obtain ⟨w1, ew1⟩ : ∃ w1, wr = w1 := ⟨_, rfl⟩
          rw [ew1] at HB1 ⊢
          clear hs hd hr e11 hm ew1
          have HB2 := Lib.hid (HBS2.out.trans (HB1.out.mono HBS2.out.size))
          have HEB := Lib.hid (HEB0.out.next HB1.out)
          have HL1 := Lib.hid (HLS.out.next HB1.out)
          clear HB1
          by_cases hk : 0 < k
          · have hk' : (k : Int) > 0 := by omega
            obtain ⟨u, eu⟩ : ∃ u, (k - 1) / 2 = u := ⟨_, rfl⟩
            obtain ⟨q, eq⟩ : ∃ q, 2 * u = q := ⟨_, rfl⟩
            obtain ⟨r, er⟩ : ∃ r, q + 1 = r := ⟨_, rfl⟩
            have D1 : Hid (((k : Int) - 1) / 2 = (u : Int)) := by show _ = _; omega
            have d2 : IntKind.i64.wrap (2 * (u : Int)) = (q : Int) := by rw [IntKind.wrap_i64]; omega
            have d3 : IntKind.i64.wrap ((q : Int) + 1) = (r : Int) := by rw [IntKind.wrap_i64]; omega
            have d4 : (0 : Int) ≤ (q : Int) := by omega
            have d5 : (q : Int) < (n : Int) := by have := EK.out; omega
            have d6 : (0 : Int) ≤ (r : Int) := by omega
            have d7 : (r : Int) < (n : Int) := by have := EK.out; omega
            obtain ⟨f1, f2⟩ := HUP.out u (by rw [EK.out]; exact hk) (by rw [EK.out]; exact eu.symm)
            rw [eq] at f1 f2
            rw [er] at f2
            have RL := less_any x (nth l q)
            have RL2 := less_any (nth l r) x
            rw [f1] at RL
            rw [f2] at RL2
            obtain ⟨y0, y1, y2, y3⟩ := HL1.out.nth (i := q) (by rw [EN.out]; omega)
            obtain ⟨z0, z1, z2, z3⟩ := HL1.out.nth (i := r) (by rw [EN.out]; omega)
            have HY := Lib.hid (IBox.mk y0 y1 y2 y3 HL1.out.1)
            have HZ := Lib.hid (IBox.mk z0 z1 z2 z3 HL1.out.1)
            generalize nth l q = y at *
            generalize nth l r = z at *
            unfold entV at RL RL2
            clear f1 f2 y0 y1 y2 y3 z0 z1 z2 z3 eu eq er
            go_wp2
            rw [D1.out]
            have ok : (planUp gl n c k u q r x y z).ok = true := rfl
            refine region_inv (Inv := fun lq_ aq_ wr => ∃ (e : Nat → Bool) (t : Nat → Value), lq_ = #[e 0, e 1, e 2, e 3, e 4, e 5, e 6, e 7, e 8, e 9, e 10, e 11, e 12, e 13, e 14, e 15, e 16, e 17, e 18, e 19, e 20] ∧ aq_ = ⟨#[.slice (some ⟨gl, 0, none⟩) n c, undef, u2, .int .i64 (i : Int), .pointer (some ⟨xb, 0, none⟩), .int .i64 (k : Int), .int .i64 (u : Int), .slice (some ⟨gl, 0, none⟩) n c, .int .i64 (n : Int), .int .i64 (i : Int), .bool true, .int .i64 (i : Int), .pointer (some ⟨gl, i * 4, none⟩), .agg #[.int .i64 x.b, .int .i64 x.d, .int .i64 x.s, .int .i64 x.i], .int .i64 (i : Int), .int .i64 (k : Int), u16, u17, u18, u19, u20, u21, u22, u23, u24, u25, u26, .bool false, .int .i64 (k : Int), .int .i64 ((k : Int) - 1), .int .i64 (u : Int), t 31, t 32, t 33, t 34, t 35, t 36, t 37, t 38, t 39, t 40, t 41, t 42, t 43, t 44, t 45, t 46, t 47, t 48, t 49, t 50, t 51, u52], []⟩ ∧ Vals (planUp gl n c k u q r x y z) e t ∧ Below w1.heap.size w1 wr) (by kernel_rfl) ?step ?start ?done
            case start => exact ⟨fun _ => false, fun j => if j = 31 then u31 else if j = 32 then u32 else if j = 33 then u33 else if j = 34 then u34 else if j = 35 then u35 else if j = 36 then u36 else if j = 37 then u37 else if j = 38 then u38 else if j = 39 then u39 else if j = 40 then u40 else if j = 41 then u41 else if j = 42 then u42 else if j = 43 then u43 else if j = 44 then u44 else if j = 45 then u45 else if j = 46 then u46 else if j = 47 then u47 else if j = 48 then u48 else if j = 49 then u49 else if j = 50 then u50 else if j = 51 then u51 else undef, rfl, rfl, Vals.start _ _, (Below.refl _ _).drew⟩
            case step =>
              rintro lq_ aq_ wr ⟨e, t, rfl, rfl, hs, hm⟩ q_ o ho hi ha
              match q_, ho, hi, ha with
              | 0, ho, hi, ha =>
                obtain rfl : _ = o := Option.some.inj ho
                have hi : e 0 = false := hi
                refine wpOp_step (i := 0) rfl (fun K hK => ?_)
                have HK : Shut (∀ a w, _ → K a w) := hK
                clear hK ho
                have HS := Lib.hid hs
                have HM := Lib.hid hm
                have HI := Lib.hid hi
                clear hs ha hm hi
                go_simp
                exact HK.out _ _ ⟨upd e 0 true, upd t 31 _, rfl, rfl, by exact HS.out.put ok (i := 0) rfl, HM.out⟩
              | 1, ho, hi, ha =>
                obtain rfl : _ = o := Option.some.inj ho
                have hi : e 1 = false := hi
                have T0 : t 31 = .int .i64 (k : Int) := hs.val 0 rfl (ha { on := 0, ground := .data } (by simp) rfl)
                have H0 := Lib.hid T0
                refine wpOp_step (i := 1) rfl (fun K hK => ?_)
                have HK : Shut (∀ a w, _ → K a w) := hK
                clear hK ho
                have HS := Lib.hid hs
                have HM := Lib.hid hm
                have HI := Lib.hid hi
                clear hs ha hm hi
                go_simp
                exact HK.out _ _ ⟨upd e 1 true, upd (upd t 31 _) 32 _, rfl, rfl, by rw [upd_self H0.out]; exact HS.out.put ok (i := 1) rfl, HM.out⟩
              | 2, ho, hi, ha =>
                obtain rfl : _ = o := Option.some.inj ho
                have hi : e 2 = false := hi
                have T1 : t 32 = .bool true := hs.val 1 rfl (ha { on := 1, ground := .data } (by simp) rfl)
                have H1 := Lib.hid T1
                refine wpOp_step (i := 2) rfl (fun K hK => ?_)
                have HK : Shut (∀ a w, _ → K a w) := hK
                clear hK ho
                have HS := Lib.hid hs
                have HM := Lib.hid hm
                have HI := Lib.hid hi
                clear hs ha hm hi
                go_simp
                exact HK.out _ _ ⟨upd e 2 true, upd (upd t 32 _) 33 _, rfl, rfl, by rw [upd_self H1.out]; exact HS.out.put ok (i := 2) rfl, HM.out⟩
              | 3, ho, hi, ha =>
                obtain rfl : _ = o := Option.some.inj ho
                have hi : e 3 = false := hi
                have T2 : t 33 = .bool true := hs.val 2 rfl (ha { on := 2, ground := .guard } (by simp) rfl)
                have H2 := Lib.hid T2
                obtain ⟨c0, c1, c2, c3, cz⟩ := HEB.out.next hm
                refine wpOp_step (i := 3) rfl (fun K hK => ?_)
                have HK : Shut (∀ a w, _ → K a w) := hK
                clear hK ho
                have HS := Lib.hid hs
                have HM := Lib.hid hm
                have HI := Lib.hid hi
                clear hs ha hm hi
                go_simp
                exact HK.out _ _ ⟨upd e 3 true, upd (upd t 33 _) 34 _, rfl, rfl, by rw [upd_self H2.out]; exact HS.out.put ok (i := 3) rfl, HM.out⟩
              | 4, ho, hi, ha =>
                obtain rfl : _ = o := Option.some.inj ho
                have hi : e 4 = false := hi
                have T2 : t 33 = .bool true := hs.val 2 rfl (ha { on := 2, ground := .guard } (by simp) rfl)
                have H2 := Lib.hid T2
                refine wpOp_step (i := 4) rfl (fun K hK => ?_)
                have HK : Shut (∀ a w, _ → K a w) := hK
                clear hK ho
                have HS := Lib.hid hs
                have HM := Lib.hid hm
                have HI := Lib.hid hi
                clear hs ha hm hi
                go_simp
                exact HK.out _ _ ⟨upd e 4 true, upd (upd t 33 _) 35 _, rfl, rfl, by rw [upd_self H2.out]; exact HS.out.put ok (i := 4) rfl, HM.out⟩
              | 5, ho, hi, ha =>
                obtain rfl : _ = o := Option.some.inj ho
                have hi : e 5 = false := hi
                have T2 : t 33 = .bool true := hs.val 2 rfl (ha { on := 2, ground := .guard } (by simp) rfl)
                have H2 := Lib.hid T2
                refine wpOp_step (i := 5) rfl (fun K hK => ?_)
                have HK : Shut (∀ a w, _ → K a w) := hK
                clear hK ho
                have HS := Lib.hid hs
                have HM := Lib.hid hm
                have HI := Lib.hid hi
                clear hs ha hm hi
                go_simp
                exact HK.out _ _ ⟨upd e 5 true, upd (upd t 33 _) 36 _, rfl, rfl, by rw [upd_self H2.out]; exact HS.out.put ok (i := 5) rfl, HM.out⟩
              | 6, ho, hi, ha =>
                obtain rfl : _ = o := Option.some.inj ho
                have hi : e 6 = false := hi
                have T2 : t 33 = .bool true := hs.val 2 rfl (ha { on := 2, ground := .guard } (by simp) rfl)
                have H2 := Lib.hid T2
                have T5 : t 36 = .int .i64 (u : Int) := hs.val 5 rfl (ha { on := 5, ground := .data } (by simp) rfl)
                have H5 := Lib.hid T5
                refine wpOp_step (i := 6) rfl (fun K hK => ?_)
                have HK : Shut (∀ a w, _ → K a w) := hK
                clear hK ho
                have HS := Lib.hid hs
                have HM := Lib.hid hm
                have HI := Lib.hid hi
                clear hs ha hm hi
                go_simp
                exact HK.out _ _ ⟨upd e 6 true, upd (upd (upd t 33 _) 36 _) 37 _, rfl, rfl, by rw [upd_self H2.out, upd_self H5.out]; exact HS.out.put ok (i := 6) rfl, HM.out⟩
              | 7, ho, hi, ha =>
                obtain rfl : _ = o := Option.some.inj ho
                have hi : e 7 = false := hi
                have T2 : t 33 = .bool true := hs.val 2 rfl (ha { on := 2, ground := .guard } (by simp) rfl)
                have H2 := Lib.hid T2
                have T4 : t 35 = .slice (some ⟨gl, 0, none⟩) n c := hs.val 4 rfl (ha { on := 4, ground := .data } (by simp) rfl)
                have H4 := Lib.hid T4
                have T6 : t 37 = .int .i64 (q : Int) := hs.val 6 rfl (ha { on := 6, ground := .data } (by simp) rfl)
                have H6 := Lib.hid T6
                refine wpOp_step (i := 7) rfl (fun K hK => ?_)
                have HK : Shut (∀ a w, _ → K a w) := hK
                clear hK ho
                have HS := Lib.hid hs
                have HM := Lib.hid hm
                have HI := Lib.hid hi
                clear hs ha hm hi
                go_simp
                exact HK.out _ _ ⟨upd e 7 true, upd (upd (upd (upd t 33 _) 35 _) 37 _) 38 _, rfl, rfl, by rw [upd_self H2.out, upd_self H4.out, upd_self H6.out]; exact HS.out.put ok (i := 7) rfl, HM.out⟩
              | 8, ho, hi, ha =>
                obtain rfl : _ = o := Option.some.inj ho
                have hi : e 8 = false := hi
                have T2 : t 33 = .bool true := hs.val 2 rfl (ha { on := 2, ground := .guard } (by simp) rfl)
                have H2 := Lib.hid T2
                have T7 : t 38 = .pointer (some ⟨gl, q * 4, none⟩) := hs.val 7 rfl (ha { on := 7, ground := .data } (by simp) rfl)
                have H7 := Lib.hid T7
                obtain ⟨c0, c1, c2, c3, cz⟩ := HY.out.next hm
                refine wpOp_step (i := 8) rfl (fun K hK => ?_)
                have HK : Shut (∀ a w, _ → K a w) := hK
                clear hK ho
                have HS := Lib.hid hs
                have HM := Lib.hid hm
                have HI := Lib.hid hi
                clear hs ha hm hi
                go_simp
                exact HK.out _ _ ⟨upd e 8 true, upd (upd (upd t 33 _) 38 _) 39 _, rfl, rfl, by rw [upd_self H2.out, upd_self H7.out]; exact HS.out.put ok (i := 8) rfl, HM.out⟩
              | 9, ho, hi, ha =>
                obtain rfl : _ = o := Option.some.inj ho
                have hi : e 9 = false := hi
                have T2 : t 33 = .bool true := hs.val 2 rfl (ha { on := 2, ground := .guard } (by simp) rfl)
                have H2 := Lib.hid T2
                have T3 : t 34 = .agg #[.int .i64 x.b, .int .i64 x.d, .int .i64 x.s, .int .i64 x.i] := hs.val 3 rfl (ha { on := 3, ground := .data } (by simp) rfl)
                have H3 := Lib.hid T3
                have T8 : t 39 = .agg #[.int .i64 y.b, .int .i64 y.d, .int .i64 y.s, .int .i64 y.i] := hs.val 8 rfl (ha { on := 8, ground := .data } (by simp) rfl)
                have H8 := Lib.hid T8
                refine wpOp_step (i := 9) rfl (fun K hK => ?_)
                have HK : Shut (∀ a w, _ → K a w) := hK
                clear hK ho
                have HS := Lib.hid hs
                have HM := Lib.hid hm
                have HI := Lib.hid hi
                clear hs ha hm hi
                go_simp
                (with_reducible refine (RL _).mono ?_)
                rintro e' w' ⟨rfl, m⟩
                go_wp2_with fail
                exact HK.out _ _ ⟨upd e 9 true, upd (upd (upd (upd t 33 _) 34 _) 39 _) 40 _, rfl, rfl, by rw [upd_self H2.out, upd_self H3.out, upd_self H8.out]; exact HS.out.put ok (i := 9) rfl, HM.out.trans (m.below.mono HM.out.size)⟩
              | 10, ho, hi, ha =>
                obtain rfl : _ = o := Option.some.inj ho
                have hi : e 10 = false := hi
                have T2 : t 33 = .bool true := hs.val 2 rfl (ha { on := 2, ground := .guard } (by simp) rfl)
                have H2 := Lib.hid T2
                have T9 : t 40 = .bool false := hs.val 9 rfl (ha { on := 9, ground := .data } (by simp) rfl)
                have H9 := Lib.hid T9
                refine wpOp_step (i := 10) rfl (fun K hK => ?_)
                have HK : Shut (∀ a w, _ → K a w) := hK
                clear hK ho
                have HS := Lib.hid hs
                have HM := Lib.hid hm
                have HI := Lib.hid hi
                clear hs ha hm hi
                go_simp
                exact HK.out _ _ ⟨upd e 10 true, upd (upd (upd t 33 _) 40 _) 41 _, rfl, rfl, by rw [upd_self H2.out, upd_self H9.out]; exact HS.out.put ok (i := 10) rfl, HM.out⟩
              | 11, ho, hi, ha =>
                obtain rfl : _ = o := Option.some.inj ho
                have hi : e 11 = false := hi
                have T10 : t 41 = .bool false := hs.val 10 rfl (ha { on := 10, ground := .guard } (by simp) rfl)
                have H10 := Lib.hid T10
                refine wpOp_step (i := 11) rfl (fun K hK => ?_)
                have HK : Shut (∀ a w, _ → K a w) := hK
                clear hK ho
                have HS := Lib.hid hs
                have HM := Lib.hid hm
                have HI := Lib.hid hi
                clear hs ha hm hi
                go_simp
                exact HK.out _ _ ⟨upd e 11 true, upd (upd t 41 _) 42 _, rfl, rfl, by rw [upd_self H10.out]; exact HS.out.put ok (i := 11) rfl, HM.out⟩
              | 12, ho, hi, ha =>
                obtain rfl : _ = o := Option.some.inj ho
                have hi : e 12 = false := hi
                have T10 : t 41 = .bool false := hs.val 10 rfl (ha { on := 10, ground := .guard } (by simp) rfl)
                have H10 := Lib.hid T10
                refine wpOp_step (i := 12) rfl (fun K hK => ?_)
                have HK : Shut (∀ a w, _ → K a w) := hK
                clear hK ho
                have HS := Lib.hid hs
                have HM := Lib.hid hm
                have HI := Lib.hid hi
                clear hs ha hm hi
                go_simp
                exact HK.out _ _ ⟨upd e 12 true, upd (upd t 41 _) 43 _, rfl, rfl, by rw [upd_self H10.out]; exact HS.out.put ok (i := 12) rfl, HM.out⟩
              | 13, ho, hi, ha =>
                obtain rfl : _ = o := Option.some.inj ho
                have hi : e 13 = false := hi
                have T10 : t 41 = .bool false := hs.val 10 rfl (ha { on := 10, ground := .guard } (by simp) rfl)
                have H10 := Lib.hid T10
                have T12 : t 43 = .int .i64 (u : Int) := hs.val 12 rfl (ha { on := 12, ground := .data } (by simp) rfl)
                have H12 := Lib.hid T12
                refine wpOp_step (i := 13) rfl (fun K hK => ?_)
                have HK : Shut (∀ a w, _ → K a w) := hK
                clear hK ho
                have HS := Lib.hid hs
                have HM := Lib.hid hm
                have HI := Lib.hid hi
                clear hs ha hm hi
                go_simp
                exact HK.out _ _ ⟨upd e 13 true, upd (upd (upd t 41 _) 43 _) 44 _, rfl, rfl, by rw [upd_self H10.out, upd_self H12.out]; exact HS.out.put ok (i := 13) rfl, HM.out⟩
              | 14, ho, hi, ha =>
                obtain rfl : _ = o := Option.some.inj ho
                have hi : e 14 = false := hi
                have T10 : t 41 = .bool false := hs.val 10 rfl (ha { on := 10, ground := .guard } (by simp) rfl)
                have H10 := Lib.hid T10
                have T13 : t 44 = .int .i64 (q : Int) := hs.val 13 rfl (ha { on := 13, ground := .data } (by simp) rfl)
                have H13 := Lib.hid T13
                refine wpOp_step (i := 14) rfl (fun K hK => ?_)
                have HK : Shut (∀ a w, _ → K a w) := hK
                clear hK ho
                have HS := Lib.hid hs
                have HM := Lib.hid hm
                have HI := Lib.hid hi
                clear hs ha hm hi
                go_simp
                exact HK.out _ _ ⟨upd e 14 true, upd (upd (upd t 41 _) 44 _) 45 _, rfl, rfl, by rw [upd_self H10.out, upd_self H13.out]; exact HS.out.put ok (i := 14) rfl, HM.out⟩
              | 15, ho, hi, ha =>
                obtain rfl : _ = o := Option.some.inj ho
                have hi : e 15 = false := hi
                have T10 : t 41 = .bool false := hs.val 10 rfl (ha { on := 10, ground := .guard } (by simp) rfl)
                have H10 := Lib.hid T10
                have T11 : t 42 = .slice (some ⟨gl, 0, none⟩) n c := hs.val 11 rfl (ha { on := 11, ground := .data } (by simp) rfl)
                have H11 := Lib.hid T11
                have T14 : t 45 = .int .i64 (r : Int) := hs.val 14 rfl (ha { on := 14, ground := .data } (by simp) rfl)
                have H14 := Lib.hid T14
                refine wpOp_step (i := 15) rfl (fun K hK => ?_)
                have HK : Shut (∀ a w, _ → K a w) := hK
                clear hK ho
                have HS := Lib.hid hs
                have HM := Lib.hid hm
                have HI := Lib.hid hi
                clear hs ha hm hi
                go_simp
                exact HK.out _ _ ⟨upd e 15 true, upd (upd (upd (upd t 41 _) 42 _) 45 _) 46 _, rfl, rfl, by rw [upd_self H10.out, upd_self H11.out, upd_self H14.out]; exact HS.out.put ok (i := 15) rfl, HM.out⟩
              | 16, ho, hi, ha =>
                obtain rfl : _ = o := Option.some.inj ho
                have hi : e 16 = false := hi
                have T10 : t 41 = .bool false := hs.val 10 rfl (ha { on := 10, ground := .guard } (by simp) rfl)
                have H10 := Lib.hid T10
                have T15 : t 46 = .pointer (some ⟨gl, r * 4, none⟩) := hs.val 15 rfl (ha { on := 15, ground := .data } (by simp) rfl)
                have H15 := Lib.hid T15
                obtain ⟨c0, c1, c2, c3, cz⟩ := HZ.out.next hm
                refine wpOp_step (i := 16) rfl (fun K hK => ?_)
                have HK : Shut (∀ a w, _ → K a w) := hK
                clear hK ho
                have HS := Lib.hid hs
                have HM := Lib.hid hm
                have HI := Lib.hid hi
                clear hs ha hm hi
                go_simp
                exact HK.out _ _ ⟨upd e 16 true, upd (upd (upd t 41 _) 46 _) 47 _, rfl, rfl, by rw [upd_self H10.out, upd_self H15.out]; exact HS.out.put ok (i := 16) rfl, HM.out⟩
              | 17, ho, hi, ha =>
                obtain rfl : _ = o := Option.some.inj ho
                have hi : e 17 = false := hi
                have T10 : t 41 = .bool false := hs.val 10 rfl (ha { on := 10, ground := .guard } (by simp) rfl)
                have H10 := Lib.hid T10
                obtain ⟨c0, c1, c2, c3, cz⟩ := HEB.out.next hm
                refine wpOp_step (i := 17) rfl (fun K hK => ?_)
                have HK : Shut (∀ a w, _ → K a w) := hK
                clear hK ho
                have HS := Lib.hid hs
                have HM := Lib.hid hm
                have HI := Lib.hid hi
                clear hs ha hm hi
                go_simp
                exact HK.out _ _ ⟨upd e 17 true, upd (upd t 41 _) 48 _, rfl, rfl, by rw [upd_self H10.out]; exact HS.out.put ok (i := 17) rfl, HM.out⟩
              | 18, ho, hi, ha =>
                obtain rfl : _ = o := Option.some.inj ho
                have hi : e 18 = false := hi
                have T10 : t 41 = .bool false := hs.val 10 rfl (ha { on := 10, ground := .guard } (by simp) rfl)
                have H10 := Lib.hid T10
                have T16 : t 47 = .agg #[.int .i64 z.b, .int .i64 z.d, .int .i64 z.s, .int .i64 z.i] := hs.val 16 rfl (ha { on := 16, ground := .data } (by simp) rfl)
                have H16 := Lib.hid T16
                have T17 : t 48 = .agg #[.int .i64 x.b, .int .i64 x.d, .int .i64 x.s, .int .i64 x.i] := hs.val 17 rfl (ha { on := 17, ground := .data } (by simp) rfl)
                have H17 := Lib.hid T17
                refine wpOp_step (i := 18) rfl (fun K hK => ?_)
                have HK : Shut (∀ a w, _ → K a w) := hK
                clear hK ho
                have HS := Lib.hid hs
                have HM := Lib.hid hm
                have HI := Lib.hid hi
                clear hs ha hm hi
                go_simp
                (with_reducible refine (RL2 _).mono ?_)
                rintro e' w' ⟨rfl, m⟩
                go_wp2_with fail
                exact HK.out _ _ ⟨upd e 18 true, upd (upd (upd (upd t 41 _) 47 _) 48 _) 49 _, rfl, rfl, by rw [upd_self H10.out, upd_self H16.out, upd_self H17.out]; exact HS.out.put ok (i := 18) rfl, HM.out.trans (m.below.mono HM.out.size)⟩
              | 19, ho, hi, ha =>
                obtain rfl : _ = o := Option.some.inj ho
                have hi : e 19 = false := hi
                have T2 : t 33 = .bool true := hs.val 2 rfl (ha { on := 2, ground := .guard } (by simp) rfl)
                have H2 := Lib.hid T2
                have T10 : t 41 = .bool false := hs.val 10 rfl (ha { on := 10, ground := .data } (by simp) rfl)
                have H10 := Lib.hid T10
                have T18 : t 49 = .bool false := hs.val 18 rfl (ha { on := 18, ground := .data } (by simp) rfl)
                have H18 := Lib.hid T18
                refine wpOp_step (i := 19) rfl (fun K hK => ?_)
                have HK : Shut (∀ a w, _ → K a w) := hK
                clear hK ho
                have HS := Lib.hid hs
                have HM := Lib.hid hm
                have HI := Lib.hid hi
                clear hs ha hm hi
                go_simp
                exact HK.out _ _ ⟨upd e 19 true, upd (upd (upd (upd t 33 _) 41 _) 49 _) 50 _, rfl, rfl, by rw [upd_self H2.out, upd_self H10.out, upd_self H18.out]; exact HS.out.put ok (i := 19) rfl, HM.out⟩
              | 20, ho, hi, ha =>
                obtain rfl : _ = o := Option.some.inj ho
                have hi : e 20 = false := hi
                have T2 : t 33 = .bool true := hs.val 2 rfl (ha { on := 2, ground := .data } (by simp) rfl)
                have H2 := Lib.hid T2
                have T19 : t 50 = .bool false := hs.val 19 rfl (ha { on := 19, ground := .data } (by simp) rfl)
                have H19 := Lib.hid T19
                refine wpOp_step (i := 20) rfl (fun K hK => ?_)
                have HK : Shut (∀ a w, _ → K a w) := hK
                clear hK ho
                have HS := Lib.hid hs
                have HM := Lib.hid hm
                have HI := Lib.hid hi
                clear hs ha hm hi
                go_simp
                exact HK.out _ _ ⟨upd e 20 true, upd (upd (upd t 33 _) 50 _) 51 _, rfl, rfl, by rw [upd_self H2.out, upd_self H19.out]; exact HS.out.put ok (i := 20) rfl, HM.out⟩
              | k + 21, ho, hi, ha => simp at ho
            case done =>
              rintro lq_ aq_ wr ⟨e, t, rfl, rfl, hs, hm⟩ hr
              have hd := ready_done hr rfl (by decide +kernel)
              have e20 : t 51 = .bool false := hs.val 20 rfl (hd 20 (by decide))
              rw [e20]
              generalize t 31 = u31, t 32 = u32, t 33 = u33, t 34 = u34, t 35 = u35, t 36 = u36, t 37 = u37, t 38 = u38, t 39 = u39, t 40 = u40, t 41 = u41, t 42 = u42, t 43 = u43, t 44 = u44, t 45 = u45, t 46 = u46, t 47 = u47, t 48 = u48, t 49 = u49, t 50 = u50
              have HB3 := Lib.hid (HB2.out.trans (hm.mono HB2.out.size))
              clear hs hd hr e20 hm
              go_wp2
              go_roundw
              case rel => exact ⟨i + 1, by omega, by go_num, HB3.out⟩
              case measure => simp [intOf]; omega
          · obtain rfl : k = 0 := by omega
            rw [show ((0 : Nat) : Int) = 0 from rfl]
            clear ek'
            go_wp2
            have ok : (planTop ).ok = true := rfl
            refine region_inv (Inv := fun lq_ aq_ wr => ∃ (e : Nat → Bool) (t : Nat → Value), lq_ = #[e 0, e 1, e 2, e 3, e 4, e 5, e 6, e 7, e 8, e 9, e 10, e 11, e 12, e 13, e 14, e 15, e 16, e 17, e 18, e 19, e 20] ∧ aq_ = ⟨#[.slice (some ⟨gl, 0, none⟩) n c, undef, u2, .int .i64 (i : Int), .pointer (some ⟨xb, 0, none⟩), .int .i64 0, .int .i64 0, .slice (some ⟨gl, 0, none⟩) n c, .int .i64 (n : Int), .int .i64 (i : Int), .bool true, .int .i64 (i : Int), .pointer (some ⟨gl, i * 4, none⟩), .agg #[.int .i64 x.b, .int .i64 x.d, .int .i64 x.s, .int .i64 x.i], .int .i64 (i : Int), .int .i64 0, u16, u17, u18, u19, u20, u21, u22, u23, u24, u25, u26, .bool false, .int .i64 0, .int .i64 (-1), .int .i64 0, t 31, t 32, t 33, t 34, t 35, t 36, t 37, t 38, t 39, t 40, t 41, t 42, t 43, t 44, t 45, t 46, t 47, t 48, t 49, t 50, t 51, u52], []⟩ ∧ Vals (planTop ) e t ∧ Below w1.heap.size w1 wr) (by kernel_rfl) ?step ?start ?done
            case start => exact ⟨fun _ => false, fun j => if j = 31 then u31 else if j = 32 then u32 else if j = 33 then u33 else if j = 34 then u34 else if j = 35 then u35 else if j = 36 then u36 else if j = 37 then u37 else if j = 38 then u38 else if j = 39 then u39 else if j = 40 then u40 else if j = 41 then u41 else if j = 42 then u42 else if j = 43 then u43 else if j = 44 then u44 else if j = 45 then u45 else if j = 46 then u46 else if j = 47 then u47 else if j = 48 then u48 else if j = 49 then u49 else if j = 50 then u50 else if j = 51 then u51 else undef, rfl, rfl, Vals.start _ _, (Below.refl _ _).drew⟩
            case step =>
              rintro lq_ aq_ wr ⟨e, t, rfl, rfl, hs, hm⟩ q_ o ho hi ha
              match q_, ho, hi, ha with
              | 0, ho, hi, ha =>
                obtain rfl : _ = o := Option.some.inj ho
                have hi : e 0 = false := hi
                refine wpOp_step (i := 0) rfl (fun K hK => ?_)
                have HK : Shut (∀ a w, _ → K a w) := hK
                clear hK ho
                have HS := Lib.hid hs
                have HM := Lib.hid hm
                have HI := Lib.hid hi
                clear hs ha hm hi
                go_simp
                exact HK.out _ _ ⟨upd e 0 true, upd t 31 _, rfl, rfl, by exact HS.out.put ok (i := 0) rfl, HM.out⟩
              | 1, ho, hi, ha =>
                obtain rfl : _ = o := Option.some.inj ho
                have hi : e 1 = false := hi
                have T0 : t 31 = .int .i64 0 := hs.val 0 rfl (ha { on := 0, ground := .data } (by simp) rfl)
                have H0 := Lib.hid T0
                refine wpOp_step (i := 1) rfl (fun K hK => ?_)
                have HK : Shut (∀ a w, _ → K a w) := hK
                clear hK ho
                have HS := Lib.hid hs
                have HM := Lib.hid hm
                have HI := Lib.hid hi
                clear hs ha hm hi
                go_simp
                exact HK.out _ _ ⟨upd e 1 true, upd (upd t 31 _) 32 _, rfl, rfl, by rw [upd_self H0.out]; exact HS.out.put ok (i := 1) rfl, HM.out⟩
              | 2, ho, hi, ha =>
                obtain rfl : _ = o := Option.some.inj ho
                have hi : e 2 = false := hi
                have T1 : t 32 = .bool false := hs.val 1 rfl (ha { on := 1, ground := .data } (by simp) rfl)
                have H1 := Lib.hid T1
                refine wpOp_step (i := 2) rfl (fun K hK => ?_)
                have HK : Shut (∀ a w, _ → K a w) := hK
                clear hK ho
                have HS := Lib.hid hs
                have HM := Lib.hid hm
                have HI := Lib.hid hi
                clear hs ha hm hi
                go_simp
                exact HK.out _ _ ⟨upd e 2 true, upd (upd t 32 _) 33 _, rfl, rfl, by rw [upd_self H1.out]; exact HS.out.put ok (i := 2) rfl, HM.out⟩
              | 3, ho, hi, ha =>
                obtain rfl : _ = o := Option.some.inj ho
                have hi : e 3 = false := hi
                have T2 : t 33 = .bool false := hs.val 2 rfl (ha { on := 2, ground := .guard } (by simp) rfl)
                have H2 := Lib.hid T2
                refine wpOp_step (i := 3) rfl (fun K hK => ?_)
                have HK : Shut (∀ a w, _ → K a w) := hK
                clear hK ho
                have HS := Lib.hid hs
                have HM := Lib.hid hm
                have HI := Lib.hid hi
                clear hs ha hm hi
                go_simp
                exact HK.out _ _ ⟨upd e 3 true, upd (upd t 33 _) 34 _, rfl, rfl, by rw [upd_self H2.out]; exact HS.out.put ok (i := 3) rfl, HM.out⟩
              | 4, ho, hi, ha =>
                obtain rfl : _ = o := Option.some.inj ho
                have hi : e 4 = false := hi
                have T2 : t 33 = .bool false := hs.val 2 rfl (ha { on := 2, ground := .guard } (by simp) rfl)
                have H2 := Lib.hid T2
                refine wpOp_step (i := 4) rfl (fun K hK => ?_)
                have HK : Shut (∀ a w, _ → K a w) := hK
                clear hK ho
                have HS := Lib.hid hs
                have HM := Lib.hid hm
                have HI := Lib.hid hi
                clear hs ha hm hi
                go_simp
                exact HK.out _ _ ⟨upd e 4 true, upd (upd t 33 _) 35 _, rfl, rfl, by rw [upd_self H2.out]; exact HS.out.put ok (i := 4) rfl, HM.out⟩
              | 5, ho, hi, ha =>
                obtain rfl : _ = o := Option.some.inj ho
                have hi : e 5 = false := hi
                have T2 : t 33 = .bool false := hs.val 2 rfl (ha { on := 2, ground := .guard } (by simp) rfl)
                have H2 := Lib.hid T2
                refine wpOp_step (i := 5) rfl (fun K hK => ?_)
                have HK : Shut (∀ a w, _ → K a w) := hK
                clear hK ho
                have HS := Lib.hid hs
                have HM := Lib.hid hm
                have HI := Lib.hid hi
                clear hs ha hm hi
                go_simp
                exact HK.out _ _ ⟨upd e 5 true, upd (upd t 33 _) 36 _, rfl, rfl, by rw [upd_self H2.out]; exact HS.out.put ok (i := 5) rfl, HM.out⟩
              | 6, ho, hi, ha =>
                obtain rfl : _ = o := Option.some.inj ho
                have hi : e 6 = false := hi
                have T2 : t 33 = .bool false := hs.val 2 rfl (ha { on := 2, ground := .guard } (by simp) rfl)
                have H2 := Lib.hid T2
                refine wpOp_step (i := 6) rfl (fun K hK => ?_)
                have HK : Shut (∀ a w, _ → K a w) := hK
                clear hK ho
                have HS := Lib.hid hs
                have HM := Lib.hid hm
                have HI := Lib.hid hi
                clear hs ha hm hi
                go_simp
                exact HK.out _ _ ⟨upd e 6 true, upd (upd t 33 _) 37 _, rfl, rfl, by rw [upd_self H2.out]; exact HS.out.put ok (i := 6) rfl, HM.out⟩
              | 7, ho, hi, ha =>
                obtain rfl : _ = o := Option.some.inj ho
                have hi : e 7 = false := hi
                have T2 : t 33 = .bool false := hs.val 2 rfl (ha { on := 2, ground := .guard } (by simp) rfl)
                have H2 := Lib.hid T2
                refine wpOp_step (i := 7) rfl (fun K hK => ?_)
                have HK : Shut (∀ a w, _ → K a w) := hK
                clear hK ho
                have HS := Lib.hid hs
                have HM := Lib.hid hm
                have HI := Lib.hid hi
                clear hs ha hm hi
                go_simp
                exact HK.out _ _ ⟨upd e 7 true, upd (upd t 33 _) 38 _, rfl, rfl, by rw [upd_self H2.out]; exact HS.out.put ok (i := 7) rfl, HM.out⟩
              | 8, ho, hi, ha =>
                obtain rfl : _ = o := Option.some.inj ho
                have hi : e 8 = false := hi
                have T2 : t 33 = .bool false := hs.val 2 rfl (ha { on := 2, ground := .guard } (by simp) rfl)
                have H2 := Lib.hid T2
                refine wpOp_step (i := 8) rfl (fun K hK => ?_)
                have HK : Shut (∀ a w, _ → K a w) := hK
                clear hK ho
                have HS := Lib.hid hs
                have HM := Lib.hid hm
                have HI := Lib.hid hi
                clear hs ha hm hi
                go_simp
                exact HK.out _ _ ⟨upd e 8 true, upd (upd t 33 _) 39 _, rfl, rfl, by rw [upd_self H2.out]; exact HS.out.put ok (i := 8) rfl, HM.out⟩
              | 9, ho, hi, ha =>
                obtain rfl : _ = o := Option.some.inj ho
                have hi : e 9 = false := hi
                have T2 : t 33 = .bool false := hs.val 2 rfl (ha { on := 2, ground := .guard } (by simp) rfl)
                have H2 := Lib.hid T2
                refine wpOp_step (i := 9) rfl (fun K hK => ?_)
                have HK : Shut (∀ a w, _ → K a w) := hK
                clear hK ho
                have HS := Lib.hid hs
                have HM := Lib.hid hm
                have HI := Lib.hid hi
                clear hs ha hm hi
                go_simp
                exact HK.out _ _ ⟨upd e 9 true, upd (upd t 33 _) 40 _, rfl, rfl, by rw [upd_self H2.out]; exact HS.out.put ok (i := 9) rfl, HM.out⟩
              | 10, ho, hi, ha =>
                obtain rfl : _ = o := Option.some.inj ho
                have hi : e 10 = false := hi
                have T2 : t 33 = .bool false := hs.val 2 rfl (ha { on := 2, ground := .guard } (by simp) rfl)
                have H2 := Lib.hid T2
                refine wpOp_step (i := 10) rfl (fun K hK => ?_)
                have HK : Shut (∀ a w, _ → K a w) := hK
                clear hK ho
                have HS := Lib.hid hs
                have HM := Lib.hid hm
                have HI := Lib.hid hi
                clear hs ha hm hi
                go_simp
                exact HK.out _ _ ⟨upd e 10 true, upd (upd t 33 _) 41 _, rfl, rfl, by rw [upd_self H2.out]; exact HS.out.put ok (i := 10) rfl, HM.out⟩
              | 11, ho, hi, ha =>
                obtain rfl : _ = o := Option.some.inj ho
                have hi : e 11 = false := hi
                have T10 : t 41 = .tuple #[] := hs.val 10 rfl (ha { on := 10, ground := .guard } (by simp) rfl)
                have H10 := Lib.hid T10
                refine wpOp_step (i := 11) rfl (fun K hK => ?_)
                have HK : Shut (∀ a w, _ → K a w) := hK
                clear hK ho
                have HS := Lib.hid hs
                have HM := Lib.hid hm
                have HI := Lib.hid hi
                clear hs ha hm hi
                go_simp
                exact HK.out _ _ ⟨upd e 11 true, upd (upd t 41 _) 42 _, rfl, rfl, by rw [upd_self H10.out]; exact HS.out.put ok (i := 11) rfl, HM.out⟩
              | 12, ho, hi, ha =>
                obtain rfl : _ = o := Option.some.inj ho
                have hi : e 12 = false := hi
                have T10 : t 41 = .tuple #[] := hs.val 10 rfl (ha { on := 10, ground := .guard } (by simp) rfl)
                have H10 := Lib.hid T10
                refine wpOp_step (i := 12) rfl (fun K hK => ?_)
                have HK : Shut (∀ a w, _ → K a w) := hK
                clear hK ho
                have HS := Lib.hid hs
                have HM := Lib.hid hm
                have HI := Lib.hid hi
                clear hs ha hm hi
                go_simp
                exact HK.out _ _ ⟨upd e 12 true, upd (upd t 41 _) 43 _, rfl, rfl, by rw [upd_self H10.out]; exact HS.out.put ok (i := 12) rfl, HM.out⟩
              | 13, ho, hi, ha =>
                obtain rfl : _ = o := Option.some.inj ho
                have hi : e 13 = false := hi
                have T10 : t 41 = .tuple #[] := hs.val 10 rfl (ha { on := 10, ground := .guard } (by simp) rfl)
                have H10 := Lib.hid T10
                refine wpOp_step (i := 13) rfl (fun K hK => ?_)
                have HK : Shut (∀ a w, _ → K a w) := hK
                clear hK ho
                have HS := Lib.hid hs
                have HM := Lib.hid hm
                have HI := Lib.hid hi
                clear hs ha hm hi
                go_simp
                exact HK.out _ _ ⟨upd e 13 true, upd (upd t 41 _) 44 _, rfl, rfl, by rw [upd_self H10.out]; exact HS.out.put ok (i := 13) rfl, HM.out⟩
              | 14, ho, hi, ha =>
                obtain rfl : _ = o := Option.some.inj ho
                have hi : e 14 = false := hi
                have T10 : t 41 = .tuple #[] := hs.val 10 rfl (ha { on := 10, ground := .guard } (by simp) rfl)
                have H10 := Lib.hid T10
                refine wpOp_step (i := 14) rfl (fun K hK => ?_)
                have HK : Shut (∀ a w, _ → K a w) := hK
                clear hK ho
                have HS := Lib.hid hs
                have HM := Lib.hid hm
                have HI := Lib.hid hi
                clear hs ha hm hi
                go_simp
                exact HK.out _ _ ⟨upd e 14 true, upd (upd t 41 _) 45 _, rfl, rfl, by rw [upd_self H10.out]; exact HS.out.put ok (i := 14) rfl, HM.out⟩
              | 15, ho, hi, ha =>
                obtain rfl : _ = o := Option.some.inj ho
                have hi : e 15 = false := hi
                have T10 : t 41 = .tuple #[] := hs.val 10 rfl (ha { on := 10, ground := .guard } (by simp) rfl)
                have H10 := Lib.hid T10
                refine wpOp_step (i := 15) rfl (fun K hK => ?_)
                have HK : Shut (∀ a w, _ → K a w) := hK
                clear hK ho
                have HS := Lib.hid hs
                have HM := Lib.hid hm
                have HI := Lib.hid hi
                clear hs ha hm hi
                go_simp
                exact HK.out _ _ ⟨upd e 15 true, upd (upd t 41 _) 46 _, rfl, rfl, by rw [upd_self H10.out]; exact HS.out.put ok (i := 15) rfl, HM.out⟩
              | 16, ho, hi, ha =>
                obtain rfl : _ = o := Option.some.inj ho
                have hi : e 16 = false := hi
                have T10 : t 41 = .tuple #[] := hs.val 10 rfl (ha { on := 10, ground := .guard } (by simp) rfl)
                have H10 := Lib.hid T10
                refine wpOp_step (i := 16) rfl (fun K hK => ?_)
                have HK : Shut (∀ a w, _ → K a w) := hK
                clear hK ho
                have HS := Lib.hid hs
                have HM := Lib.hid hm
                have HI := Lib.hid hi
                clear hs ha hm hi
                go_simp
                exact HK.out _ _ ⟨upd e 16 true, upd (upd t 41 _) 47 _, rfl, rfl, by rw [upd_self H10.out]; exact HS.out.put ok (i := 16) rfl, HM.out⟩
              | 17, ho, hi, ha =>
                obtain rfl : _ = o := Option.some.inj ho
                have hi : e 17 = false := hi
                have T10 : t 41 = .tuple #[] := hs.val 10 rfl (ha { on := 10, ground := .guard } (by simp) rfl)
                have H10 := Lib.hid T10
                refine wpOp_step (i := 17) rfl (fun K hK => ?_)
                have HK : Shut (∀ a w, _ → K a w) := hK
                clear hK ho
                have HS := Lib.hid hs
                have HM := Lib.hid hm
                have HI := Lib.hid hi
                clear hs ha hm hi
                go_simp
                exact HK.out _ _ ⟨upd e 17 true, upd (upd t 41 _) 48 _, rfl, rfl, by rw [upd_self H10.out]; exact HS.out.put ok (i := 17) rfl, HM.out⟩
              | 18, ho, hi, ha =>
                obtain rfl : _ = o := Option.some.inj ho
                have hi : e 18 = false := hi
                have T10 : t 41 = .tuple #[] := hs.val 10 rfl (ha { on := 10, ground := .guard } (by simp) rfl)
                have H10 := Lib.hid T10
                refine wpOp_step (i := 18) rfl (fun K hK => ?_)
                have HK : Shut (∀ a w, _ → K a w) := hK
                clear hK ho
                have HS := Lib.hid hs
                have HM := Lib.hid hm
                have HI := Lib.hid hi
                clear hs ha hm hi
                go_simp
                exact HK.out _ _ ⟨upd e 18 true, upd (upd t 41 _) 49 _, rfl, rfl, by rw [upd_self H10.out]; exact HS.out.put ok (i := 18) rfl, HM.out⟩
              | 19, ho, hi, ha =>
                obtain rfl : _ = o := Option.some.inj ho
                have hi : e 19 = false := hi
                have T2 : t 33 = .bool false := hs.val 2 rfl (ha { on := 2, ground := .guard } (by simp) rfl)
                have H2 := Lib.hid T2
                refine wpOp_step (i := 19) rfl (fun K hK => ?_)
                have HK : Shut (∀ a w, _ → K a w) := hK
                clear hK ho
                have HS := Lib.hid hs
                have HM := Lib.hid hm
                have HI := Lib.hid hi
                clear hs ha hm hi
                go_simp
                exact HK.out _ _ ⟨upd e 19 true, upd (upd t 33 _) 50 _, rfl, rfl, by rw [upd_self H2.out]; exact HS.out.put ok (i := 19) rfl, HM.out⟩
              | 20, ho, hi, ha =>
                obtain rfl : _ = o := Option.some.inj ho
                have hi : e 20 = false := hi
                have T2 : t 33 = .bool false := hs.val 2 rfl (ha { on := 2, ground := .data } (by simp) rfl)
                have H2 := Lib.hid T2
                refine wpOp_step (i := 20) rfl (fun K hK => ?_)
                have HK : Shut (∀ a w, _ → K a w) := hK
                clear hK ho
                have HS := Lib.hid hs
                have HM := Lib.hid hm
                have HI := Lib.hid hi
                clear hs ha hm hi
                go_simp
                exact HK.out _ _ ⟨upd e 20 true, upd (upd t 33 _) 51 _, rfl, rfl, by rw [upd_self H2.out]; exact HS.out.put ok (i := 20) rfl, HM.out⟩
              | k + 21, ho, hi, ha => simp at ho
            case done =>
              rintro lq_ aq_ wr ⟨e, t, rfl, rfl, hs, hm⟩ hr
              have hd := ready_done hr rfl (by decide +kernel)
              have e20 : t 51 = .bool false := hs.val 20 rfl (hd 20 (by decide))
              rw [e20]
              generalize t 31 = u31, t 32 = u32, t 33 = u33, t 34 = u34, t 35 = u35, t 36 = u36, t 37 = u37, t 38 = u38, t 39 = u39, t 40 = u40, t 41 = u41, t 42 = u42, t 43 = u43, t 44 = u44, t 45 = u45, t 46 = u46, t 47 = u47, t 48 = u48, t 49 = u49, t 50 = u50
              have HB3 := Lib.hid (HB2.out.trans (hm.mono HB2.out.size))
              clear hs hd hr e20 hm
              go_wp2
              go_roundw
              case rel => exact ⟨i + 1, by omega, by go_num, HB3.out⟩
              case measure => simp [intOf]; omega
    · obtain rfl : i = n := by omega
      have HB := Lib.hid hbe
      clear hbe
      go_wp2
      go_ret
      exact ⟨rfl, HB.out⟩
theorem stands_nil (w : World) : Calls Try.prog 19 #[.slice none 0 0] w fun e w' => e = .returned (.bool true) ∧ Below w.heap.size w w' := by
  go_enter Try.func19, Try.ntmps19
  go_wp2
  go_loopw [9] (fun i wr => i = .int .i64 0 ∧ w = wr) (fun _ _ => 0)
  case atStart => exact ⟨rfl, rfl⟩
  case round =>
    obtain ⟨rfl, rfl⟩ := hrel
    go_wp2
    go_ret
    exact ⟨rfl, Below.refl _ _⟩
theorem stands_any (l : List En) (hn : l.length ≤ 1000) (hr : Right l) (v : Value) (w : World) (h : Lists w v l) : Calls Try.prog 19 #[v] w fun e w' => e = .returned (.bool true) ∧ Below w.heap.size w w' := by
  rcases h with ⟨rfl, rfl⟩ | ⟨g, c, rfl, hL⟩
  · exact stands_nil w
  · exact stands_some l hn hr g c w hL
end Go.Proofs.Ytccjahlpakiadaa.I
