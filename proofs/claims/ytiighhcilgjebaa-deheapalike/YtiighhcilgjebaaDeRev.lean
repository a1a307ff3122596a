/-
  What the library's Reverse does to a row of entries of one's own.
-/
import Derived.Test.YtiighhcilgjebaaHeapKit
import Derived.Test.YtiighhcilgjebaaHeapMath2
namespace Go.Proofs.Ytiighhcilgjebaa
set_option maxRecDepth 100000
open Go.RowKit Go.Sort

theorem rev_none (p : Option Addr) (c : Nat) (w : World) : Calls Try.prog 34 #[.slice p 0 c] w fun e w' => e = .returned (.tuple #[]) ∧ w = w' := by
  go_enter Try.func34, Try.ntmps34
  go_wp2
  go_loop [2, 3] (fun i j => i = .int .i64 0 ∧ j = .int .i64 (-1)) (fun _ _ => 0)
  case atStart => exact ⟨rfl, rfl⟩
  case round =>
    obtain ⟨rfl, rfl⟩ := hrel
    go_wp2
    go_end0
    exact ⟨rfl, rfl⟩
/-- The first k and the last k have changed places. -/
def revK (l : List En) : Nat → List En
  | 0 => l
  | k + 1 => swp (revK l k) k (l.length - 1 - k)
theorem revK_length (l : List En) (k : Nat) : (revK l k).length = l.length := by
  induction k with
  | zero => rfl
  | succ k ih => rw [revK, swp_length, ih]
theorem revK_nth (l : List En) (k : Nat) (h : 2 * k ≤ l.length) (i : Nat) (hi : i < l.length) : nth (revK l k) i = if i < k ∨ l.length - k ≤ i then nth l (l.length - 1 - i) else nth l i := by
  induction k generalizing i with
  | zero => rw [if_neg (by omega)]; rfl
  | succ k ih =>
    rw [revK, nth_swp _ _ (by rw [revK_length]; omega) (by rw [revK_length]; omega)]
    by_cases h1 : i = l.length - 1 - k
    · rw [if_pos h1, if_pos (by omega), ih (by omega) k (by omega), if_neg (by omega)]
      congr 1
      omega
    · rw [if_neg h1]
      by_cases h2 : i = k
      · rw [if_pos h2, if_pos (by omega), ih (by omega) _ (by omega), if_neg (by omega), h2]
      · rw [if_neg h2, ih (by omega) i hi]
        by_cases h3 : i < k ∨ l.length - k ≤ i
        · rw [if_pos h3, if_pos (by omega)]
        · rw [if_neg h3, if_neg (by omega)]
theorem ext_nth {l m : List En} (h : l.length = m.length) (k : ∀ i, i < l.length → nth l i = nth m i) : l = m := by
  refine List.ext_getElem h fun i h1 h2 => ?_
  have := k i h1
  rwa [nth_get h1, nth_get h2] at this
theorem revK_all (l : List En) (k : Nat) (h : 2 * k ≤ l.length) (h2 : l.length ≤ 2 * k + 1) : revK l k = l.reverse := by
  refine ext_nth (by rw [revK_length, List.length_reverse]) fun i hi => ?_
  rw [revK_length] at hi
  rw [revK_nth l k h i hi]
  have e : nth l.reverse i = nth l (l.length - 1 - i) := by
    rw [nth_get (by rw [List.length_reverse]; exact hi), nth_get (by omega)]
    simp
  rw [e]
  by_cases h3 : i < k ∨ l.length - k ≤ i
  · rw [if_pos h3]
  · rw [if_neg h3]
    congr 1
    omega
def planRv (g n cap i k : Nat) (x y : En) : Plan := { ks := [0, 0, 0, 0, 0, 0, 0, 0, 0, 0, 0, 0, 0, 2, 0, 2], ds := [14, 15, 16, 17, 18, 19, 20, 21, 22, 23, 24, 25, 26, 0, 27, 0], vs := [.slice (some ⟨g, 0, none⟩) n cap, .int .i64 (i : Int), .slice (some ⟨g, 0, none⟩) n cap, .int .i64 (k : Int), .slice (some ⟨g, 0, none⟩) n cap, .int .i64 (k : Int), .pointer (some ⟨g, k * 4, none⟩), .agg #[.int .i64 y.b, .int .i64 y.d, .int .i64 y.s, .int .i64 y.i], .slice (some ⟨g, 0, none⟩) n cap, .int .i64 (i : Int), .pointer (some ⟨g, i * 4, none⟩), .agg #[.int .i64 x.b, .int .i64 x.d, .int .i64 x.s, .int .i64 x.i], .pointer (some ⟨g, i * 4, none⟩), undef, .pointer (some ⟨g, k * 4, none⟩), undef], ss := [0, 0, 0, 0, 0, 0, 0, 0, 0, 0, 0, 0, 0, 0, 0, 0], zs := [#[], #[], #[], #[], #[], #[], #[], #[], #[], #[], #[], #[], #[], #[], #[], #[]], fs := [#[], #[], #[], #[], #[], #[], #[], #[], #[], #[], #[], #[], #[], #[], #[], #[]], ts := [0, 0, 0, 0, 0, 0, 0, 0, 0, 0, 0, 0, 0, 0, 0, 0] }
set_option maxHeartbeats 4000000 in
theorem rev_some (l : List En) (B g cap n : Nat) (hn : l.length = n) (h0 : 0 < n) (hl : n ≤ 1000) (w : World) (h : Row B g n cap l w) :
    Calls Try.prog 34 #[.slice (some ⟨g, 0, none⟩) n cap] w fun e w' => e = .returned (.tuple #[]) ∧ Row B g n cap l.reverse w' ∧ w.grownBy w' (some g) := by
  have HR := Lib.hid h
  have HN := Lib.hid hn
  clear h hn
  go_enter Try.func34, Try.ntmps34
  go_wp2
  go_loopw [2, 3] (fun i j wr => ∃ k jj : Nat, k + jj = n - 1 ∧ k ≤ jj + 1 ∧ i = .int .i64 (k : Int) ∧ j = .int .i64 (jj : Int) ∧ Row B g n cap (revK l k) wr ∧ w.grownBy wr (some g)) (fun i _ _ => n - (intOf i).toNat)
  case atStart => exact ⟨0, n - 1, by omega, by omega, rfl, by congr 1; omega, HR.out, grown_refl _ _⟩
  case round =>
    obtain ⟨i, k, hik, hik2, rfl, rfl, hr, hg⟩ := hrel
    have HG := Lib.hid hg
    have HIK := Lib.hid hik
    clear hg hik
    by_cases hlt : i < k
    · have hil : i < (revK l i).length := by rw [revK_length, HN.out]; have := HIK.out; omega
      have hkl : k < (revK l i).length := by rw [revK_length, HN.out]; have := HIK.out; omega
      have hrn : Row B g n cap (revK l i) wr := hr
      have h1 := (own_list hr).nth hil
      have h2 := (own_list hr).nth hkl
      have HP : Hid (∀ W, Row B g n cap (revK l i) W → Row B g n cap (revK l (i + 1)) (((((((((W.setCell ⟨g, i * 4, none⟩ (.int .i64 (nth (revK l i) k).b)).setCell ⟨g, i * 4 + 1, none⟩ (.int .i64 (nth (revK l i) k).d)).setCell ⟨g, i * 4 + 2, none⟩ (.int .i64 (nth (revK l i) k).s)).setCell ⟨g, i * 4 + 3, none⟩ (.int .i64 (nth (revK l i) k).i)).setCell ⟨g, k * 4, none⟩ (.int .i64 (nth (revK l i) i).b)).setCell ⟨g, k * 4 + 1, none⟩ (.int .i64 (nth (revK l i) i).d)).setCell ⟨g, k * 4 + 2, none⟩ (.int .i64 (nth (revK l i) i).s)).setCell ⟨g, k * 4 + 3, none⟩ (.int .i64 (nth (revK l i) i).i)))) := by
        intro W hW
        have := (hW.put hil (nth (revK l i) k)).put (i := k) (by simpa using hkl) (nth (revK l i) i)
        have e : l.length - 1 - i = k := by rw [HN.out]; have := HIK.out; omega
        rw [revK, e]
        exact this
      have hdr : Row B g n cap (revK l i) wr.drew := hr.drew
      have HQ := Lib.hid ((hdr.put hil (nth (revK l i) k)).facts (k := k) (by simpa using hkl))
      clear hdr hrn
      have HR1 := Lib.hid hr
      have z0 := hr.frozenAt (i * 4)
      have z1 := hr.frozenAt (i * 4 + 1)
      have z2 := hr.frozenAt (i * 4 + 2)
      have z3 := hr.frozenAt (i * 4 + 3)
      have y0 := hr.frozenAt (k * 4)
      have y1 := hr.frozenAt (k * 4 + 1)
      have y2 := hr.frozenAt (k * 4 + 2)
      have y3 := hr.frozenAt (k * 4 + 3)
      have fz := (hr.lt g rfl).2
      generalize nth (revK l i) i = x at *
      generalize nth (revK l i) k = y at *
      obtain ⟨a0, a1, a2, a3⟩ := h1
      obtain ⟨b0, b1, b2, b3⟩ := h2
      have c01 : (0 : Int) ≤ (i : Int) := by omega
      have c02 : (i : Int) < (n : Int) := by have := HIK.out; omega
      have c03 : (0 : Int) ≤ (k : Int) := by omega
      have c04 : (k : Int) < (n : Int) := by have := HIK.out; omega
      have c05 : (i : Int) < (k : Int) := by omega
      clear hr hil hkl
      obtain ⟨w1, hw1⟩ : ∃ q, q = wr := ⟨wr, rfl⟩
      subst hw1
      go_wp2
      have ok : (planRv g n cap i k x y).ok = true := rfl
      refine region_inv (Inv := fun lq_ aq_ wr => ∃ (e : Nat → Bool) (t : Nat → Value), lq_ = #[e 0, e 1, e 2, e 3, e 4, e 5, e 6, e 7, e 8, e 9, e 10, e 11, e 12, e 13, e 14, e 15] ∧ aq_ = ⟨#[.slice (some ⟨g, 0, none⟩) n cap, undef, .int .i64 (i : Int), .int .i64 (k : Int), .slice (some ⟨g, 0, none⟩) n cap, .int .i64 (n : Int), .int .i64 ((n : Int) - 1), .int .i64 (i : Int), .int .i64 (k : Int), .bool true, u10, u11, u12, u13, t 14, t 15, t 16, t 17, t 18, t 19, t 20, t 21, t 22, t 23, t 24, t 25, t 26, t 27], []⟩ ∧ Vals (planRv g n cap i k x y) e t ∧ MSw w1.drew ((((w1.drew.setCell ⟨g, i * 4, none⟩ (.int .i64 y.b)).setCell ⟨g, i * 4 + 1, none⟩ (.int .i64 y.d)).setCell ⟨g, i * 4 + 2, none⟩ (.int .i64 y.s)).setCell ⟨g, i * 4 + 3, none⟩ (.int .i64 y.i)) ((((((((w1.drew.setCell ⟨g, i * 4, none⟩ (.int .i64 y.b)).setCell ⟨g, i * 4 + 1, none⟩ (.int .i64 y.d)).setCell ⟨g, i * 4 + 2, none⟩ (.int .i64 y.s)).setCell ⟨g, i * 4 + 3, none⟩ (.int .i64 y.i)).setCell ⟨g, k * 4, none⟩ (.int .i64 x.b)).setCell ⟨g, k * 4 + 1, none⟩ (.int .i64 x.d)).setCell ⟨g, k * 4 + 2, none⟩ (.int .i64 x.s)).setCell ⟨g, k * 4 + 3, none⟩ (.int .i64 x.i)) e wr) (by kernel_rfl) ?step ?start ?done
      case start => exact ⟨fun _ => false, fun j => if j = 14 then u14 else if j = 15 then u15 else if j = 16 then u16 else if j = 17 then u17 else if j = 18 then u18 else if j = 19 then u19 else if j = 20 then u20 else if j = 21 then u21 else if j = 22 then u22 else if j = 23 then u23 else if j = 24 then u24 else if j = 25 then u25 else if j = 26 then u26 else if j = 27 then u27 else undef, rfl, rfl, Vals.start _ _, MSw.start _ _ _⟩
      case step =>
        rintro lq_ aq_ wr ⟨e, t, rfl, rfl, hs, hm⟩ q_ o ho hi ha
        match q_, ho, hi, ha with
        | 0, ho, hi, ha =>
          obtain rfl : _ = o := Option.some.inj ho
          have hi : e 0 = false := hi
          refine wpOp_step (i := 0) rfl (fun K hK => ?_)
          have HK : Shut (∀ a w, _ → K a w) := hK
          clear hK ho
          have HS := Lib.hid hs
          have HM := Lib.hid hm
          have HI := Lib.hid hi
          clear hs ha hm hi
          go_simp
          exact HK.out _ _ ⟨upd e 0 true, upd t 14 _, rfl, rfl, by exact HS.out.put ok (i := 0) rfl, HM.out.of rfl rfl rfl rfl⟩
        | 1, ho, hi, ha =>
          obtain rfl : _ = o := Option.some.inj ho
          have hi : e 1 = false := hi
          refine wpOp_step (i := 1) rfl (fun K hK => ?_)
          have HK : Shut (∀ a w, _ → K a w) := hK
          clear hK ho
          have HS := Lib.hid hs
          have HM := Lib.hid hm
          have HI := Lib.hid hi
          clear hs ha hm hi
          go_simp
          exact HK.out _ _ ⟨upd e 1 true, upd t 15 _, rfl, rfl, by exact HS.out.put ok (i := 1) rfl, HM.out.of rfl rfl rfl rfl⟩
        | 2, ho, hi, ha =>
          obtain rfl : _ = o := Option.some.inj ho
          have hi : e 2 = false := hi
          refine wpOp_step (i := 2) rfl (fun K hK => ?_)
          have HK : Shut (∀ a w, _ → K a w) := hK
          clear hK ho
          have HS := Lib.hid hs
          have HM := Lib.hid hm
          have HI := Lib.hid hi
          clear hs ha hm hi
          go_simp
          exact HK.out _ _ ⟨upd e 2 true, upd t 16 _, rfl, rfl, by exact HS.out.put ok (i := 2) rfl, HM.out.of rfl rfl rfl rfl⟩
        | 3, ho, hi, ha =>
          obtain rfl : _ = o := Option.some.inj ho
          have hi : e 3 = false := hi
          refine wpOp_step (i := 3) rfl (fun K hK => ?_)
          have HK : Shut (∀ a w, _ → K a w) := hK
          clear hK ho
          have HS := Lib.hid hs
          have HM := Lib.hid hm
          have HI := Lib.hid hi
          clear hs ha hm hi
          go_simp
          exact HK.out _ _ ⟨upd e 3 true, upd t 17 _, rfl, rfl, by exact HS.out.put ok (i := 3) rfl, HM.out.of rfl rfl rfl rfl⟩
        | 4, ho, hi, ha =>
          obtain rfl : _ = o := Option.some.inj ho
          have hi : e 4 = false := hi
          refine wpOp_step (i := 4) rfl (fun K hK => ?_)
          have HK : Shut (∀ a w, _ → K a w) := hK
          clear hK ho
          have HS := Lib.hid hs
          have HM := Lib.hid hm
          have HI := Lib.hid hi
          clear hs ha hm hi
          go_simp
          exact HK.out _ _ ⟨upd e 4 true, upd t 18 _, rfl, rfl, by exact HS.out.put ok (i := 4) rfl, HM.out.of rfl rfl rfl rfl⟩
        | 5, ho, hi, ha =>
          obtain rfl : _ = o := Option.some.inj ho
          have hi : e 5 = false := hi
          refine wpOp_step (i := 5) rfl (fun K hK => ?_)
          have HK : Shut (∀ a w, _ → K a w) := hK
          clear hK ho
          have HS := Lib.hid hs
          have HM := Lib.hid hm
          have HI := Lib.hid hi
          clear hs ha hm hi
          go_simp
          exact HK.out _ _ ⟨upd e 5 true, upd t 19 _, rfl, rfl, by exact HS.out.put ok (i := 5) rfl, HM.out.of rfl rfl rfl rfl⟩
        | 6, ho, hi, ha =>
          obtain rfl : _ = o := Option.some.inj ho
          have hi : e 6 = false := hi
          have T4 : t 18 = .slice (some ⟨g, 0, none⟩) n cap := hs.val 4 rfl (ha { on := 4, ground := .data } (by simp) rfl)
          have H4 := Lib.hid T4
          have T5 : t 19 = .int .i64 (k : Int) := hs.val 5 rfl (ha { on := 5, ground := .data } (by simp) rfl)
          have H5 := Lib.hid T5
          refine wpOp_step (i := 6) rfl (fun K hK => ?_)
          have HK : Shut (∀ a w, _ → K a w) := hK
          clear hK ho
          have HS := Lib.hid hs
          have HM := Lib.hid hm
          have HI := Lib.hid hi
          clear hs ha hm hi
          go_simp
          exact HK.out _ _ ⟨upd e 6 true, upd (upd (upd t 18 _) 19 _) 20 _, rfl, rfl, by rw [upd_self H4.out, upd_self H5.out]; exact HS.out.put ok (i := 6) rfl, HM.out.of rfl rfl rfl rfl⟩
        | 7, ho, hi, ha =>
          obtain rfl : _ = o := Option.some.inj ho
          have hi : e 7 = false := hi
          have T6 : t 20 = .pointer (some ⟨g, k * 4, none⟩) := hs.val 6 rfl (ha { on := 6, ground := .data } (by simp) rfl)
          have H6 := Lib.hid T6
          obtain rfl := hm.early (.inl hi)
          refine wpOp_step (i := 7) rfl (fun K hK => ?_)
          have HK : Shut (∀ a w, _ → K a w) := hK
          clear hK ho
          have HS := Lib.hid hs
          have HM := Lib.hid hm
          have HI := Lib.hid hi
          clear hs ha hm hi
          go_simp
          exact HK.out _ _ ⟨upd e 7 true, upd (upd t 20 _) 21 _, rfl, rfl, by rw [upd_self H6.out]; exact HS.out.put ok (i := 7) rfl, HM.out.set7⟩
        | 8, ho, hi, ha =>
          obtain rfl : _ = o := Option.some.inj ho
          have hi : e 8 = false := hi
          refine wpOp_step (i := 8) rfl (fun K hK => ?_)
          have HK : Shut (∀ a w, _ → K a w) := hK
          clear hK ho
          have HS := Lib.hid hs
          have HM := Lib.hid hm
          have HI := Lib.hid hi
          clear hs ha hm hi
          go_simp
          exact HK.out _ _ ⟨upd e 8 true, upd t 22 _, rfl, rfl, by exact HS.out.put ok (i := 8) rfl, HM.out.of rfl rfl rfl rfl⟩
        | 9, ho, hi, ha =>
          obtain rfl : _ = o := Option.some.inj ho
          have hi : e 9 = false := hi
          refine wpOp_step (i := 9) rfl (fun K hK => ?_)
          have HK : Shut (∀ a w, _ → K a w) := hK
          clear hK ho
          have HS := Lib.hid hs
          have HM := Lib.hid hm
          have HI := Lib.hid hi
          clear hs ha hm hi
          go_simp
          exact HK.out _ _ ⟨upd e 9 true, upd t 23 _, rfl, rfl, by exact HS.out.put ok (i := 9) rfl, HM.out.of rfl rfl rfl rfl⟩
        | 10, ho, hi, ha =>
          obtain rfl : _ = o := Option.some.inj ho
          have hi : e 10 = false := hi
          have T8 : t 22 = .slice (some ⟨g, 0, none⟩) n cap := hs.val 8 rfl (ha { on := 8, ground := .data } (by simp) rfl)
          have H8 := Lib.hid T8
          have T9 : t 23 = .int .i64 (i : Int) := hs.val 9 rfl (ha { on := 9, ground := .data } (by simp) rfl)
          have H9 := Lib.hid T9
          refine wpOp_step (i := 10) rfl (fun K hK => ?_)
          have HK : Shut (∀ a w, _ → K a w) := hK
          clear hK ho
          have HS := Lib.hid hs
          have HM := Lib.hid hm
          have HI := Lib.hid hi
          clear hs ha hm hi
          go_simp
          exact HK.out _ _ ⟨upd e 10 true, upd (upd (upd t 22 _) 23 _) 24 _, rfl, rfl, by rw [upd_self H8.out, upd_self H9.out]; exact HS.out.put ok (i := 10) rfl, HM.out.of rfl rfl rfl rfl⟩
        | 11, ho, hi, ha =>
          obtain rfl : _ = o := Option.some.inj ho
          have hi : e 11 = false := hi
          have T10 : t 24 = .pointer (some ⟨g, i * 4, none⟩) := hs.val 10 rfl (ha { on := 10, ground := .data } (by simp) rfl)
          have H10 := Lib.hid T10
          obtain rfl := hm.early (.inr hi)
          refine wpOp_step (i := 11) rfl (fun K hK => ?_)
          have HK : Shut (∀ a w, _ → K a w) := hK
          clear hK ho
          have HS := Lib.hid hs
          have HM := Lib.hid hm
          have HI := Lib.hid hi
          clear hs ha hm hi
          go_simp
          exact HK.out _ _ ⟨upd e 11 true, upd (upd t 24 _) 25 _, rfl, rfl, by rw [upd_self H10.out]; exact HS.out.put ok (i := 11) rfl, HM.out.set11⟩
        | 12, ho, hi, ha =>
          obtain rfl : _ = o := Option.some.inj ho
          have hi : e 12 = false := hi
          have T0 : t 14 = .slice (some ⟨g, 0, none⟩) n cap := hs.val 0 rfl (ha { on := 0, ground := .data } (by simp) rfl)
          have H0 := Lib.hid T0
          have T1 : t 15 = .int .i64 (i : Int) := hs.val 1 rfl (ha { on := 1, ground := .data } (by simp) rfl)
          have H1 := Lib.hid T1
          refine wpOp_step (i := 12) rfl (fun K hK => ?_)
          have HK : Shut (∀ a w, _ → K a w) := hK
          clear hK ho
          have HS := Lib.hid hs
          have HM := Lib.hid hm
          have HI := Lib.hid hi
          clear hs ha hm hi
          go_simp
          exact HK.out _ _ ⟨upd e 12 true, upd (upd (upd t 14 _) 15 _) 26 _, rfl, rfl, by rw [upd_self H0.out, upd_self H1.out]; exact HS.out.put ok (i := 12) rfl, HM.out.of rfl rfl rfl rfl⟩
        | 13, ho, hi, ha =>
          obtain rfl : _ = o := Option.some.inj ho
          have hi : e 13 = false := hi
          have T12 : t 26 = .pointer (some ⟨g, i * 4, none⟩) := hs.val 12 rfl (ha { on := 12, ground := .data } (by simp) rfl)
          have H12 := Lib.hid T12
          have T7 : t 21 = .agg #[.int .i64 y.b, .int .i64 y.d, .int .i64 y.s, .int .i64 y.i] := hs.val 7 rfl (ha { on := 7, ground := .data } (by simp) rfl)
          have H7 := Lib.hid T7
          obtain rfl := hm.first hi
          have e7 := Lib.hid (ha { on := 7, ground := .data } (by simp) rfl)
          have e11 := Lib.hid (ha { on := 11, ground := .phase } (by simp) rfl)
          refine wpOp_step (i := 13) rfl (fun K hK => ?_)
          have HK : Shut (∀ a w, _ → K a w) := hK
          clear hK ho
          have HS := Lib.hid hs
          have HM := Lib.hid hm
          have HI := Lib.hid hi
          clear hs ha hm hi
          go_simp
          exact HK.out _ _ ⟨upd e 13 true, (upd (upd t 26 _) 21 _), rfl, rfl, by rw [upd_self H12.out, upd_self H7.out]; exact HS.out.skip (i := 13) rfl, HM.out.set13 HI.out e7.out e11.out⟩
        | 14, ho, hi, ha =>
          obtain rfl : _ = o := Option.some.inj ho
          have hi : e 14 = false := hi
          have T2 : t 16 = .slice (some ⟨g, 0, none⟩) n cap := hs.val 2 rfl (ha { on := 2, ground := .data } (by simp) rfl)
          have H2 := Lib.hid T2
          have T3 : t 17 = .int .i64 (k : Int) := hs.val 3 rfl (ha { on := 3, ground := .data } (by simp) rfl)
          have H3 := Lib.hid T3
          refine wpOp_step (i := 14) rfl (fun K hK => ?_)
          have HK : Shut (∀ a w, _ → K a w) := hK
          clear hK ho
          have HS := Lib.hid hs
          have HM := Lib.hid hm
          have HI := Lib.hid hi
          clear hs ha hm hi
          go_simp
          exact HK.out _ _ ⟨upd e 14 true, upd (upd (upd t 16 _) 17 _) 27 _, rfl, rfl, by rw [upd_self H2.out, upd_self H3.out]; exact HS.out.put ok (i := 14) rfl, HM.out.of rfl rfl rfl rfl⟩
        | 15, ho, hi, ha =>
          obtain rfl : _ = o := Option.some.inj ho
          have hi : e 15 = false := hi
          have T14 : t 27 = .pointer (some ⟨g, k * 4, none⟩) := hs.val 14 rfl (ha { on := 14, ground := .data } (by simp) rfl)
          have H14 := Lib.hid T14
          have T11 : t 25 = .agg #[.int .i64 x.b, .int .i64 x.d, .int .i64 x.s, .int .i64 x.i] := hs.val 11 rfl (ha { on := 11, ground := .data } (by simp) rfl)
          have H11 := Lib.hid T11
          have e13 : e 13 = true := ha { on := 13, ground := .chain } (by simp) rfl
          obtain rfl := hm.second e13 hi
          have E13 := Lib.hid e13
          clear e13
          obtain ⟨z, q0, q1, q2, q3, p0, p1, p2, p3⟩ := HQ.out
          generalize ((((w1.drew.setCell ⟨g, i * 4, none⟩ (.int .i64 y.b)).setCell ⟨g, i * 4 + 1, none⟩ (.int .i64 y.d)).setCell ⟨g, i * 4 + 2, none⟩ (.int .i64 y.s)).setCell ⟨g, i * 4 + 3, none⟩ (.int .i64 y.i)) = u at *
          refine wpOp_step (i := 15) rfl (fun K hK => ?_)
          have HK : Shut (∀ a w, _ → K a w) := hK
          clear hK ho
          have HS := Lib.hid hs
          have HM := Lib.hid hm
          have HI := Lib.hid hi
          clear hs ha hm hi
          go_simp
          exact HK.out _ _ ⟨upd e 15 true, (upd (upd t 27 _) 25 _), rfl, rfl, by rw [upd_self H14.out, upd_self H11.out]; exact HS.out.skip (i := 15) rfl, HM.out.set15 E13.out⟩
        | k + 16, ho, hi, ha => simp at ho
      case done =>
        rintro lq_ aq_ wr ⟨e, t, rfl, rfl, hs, hm⟩ hr
        have hd := ready_done hr rfl (by decide +kernel)
        have e13 : e 13 = true := hd 13 (by decide)
        have e15 : e 15 = true := hd 15 (by decide)
        obtain rfl := hm.c e15
        clear hs hm hd hr e13 e15 z0 z1 z2 z3 y0 y1 y2 y3 a0 a1 a2 a3 b0 b1 b2 b3 HQ
        have R := Lib.hid (HP.out _ HR1.out.drew)
        have G := Lib.hid (grown_trans HG.out (grown_trans (grown_trans (grown_below (Below.refl _ _).drew) (grown_set4 (g := g) (i := i) (v0 := .int .i64 y.b) (v1 := .int .i64 y.d) (v2 := .int .i64 y.s) (v3 := .int .i64 y.i))) (grown_set4 (g := g) (i := k) (v0 := .int .i64 x.b) (v1 := .int .i64 x.d) (v2 := .int .i64 x.s) (v3 := .int .i64 x.i))))
        clear HP HR1 HG
        generalize t 14 = u14, t 15 = u15, t 16 = u16, t 17 = u17, t 18 = u18, t 19 = u19, t 20 = u20, t 21 = u21, t 22 = u22, t 23 = u23, t 24 = u24, t 25 = u25, t 26 = u26, t 27 = u27
        obtain ⟨w2, hw2⟩ : ∃ q, q = ((((((((w1.drew.setCell ⟨g, i * 4, none⟩ (.int .i64 y.b)).setCell ⟨g, i * 4 + 1, none⟩ (.int .i64 y.d)).setCell ⟨g, i * 4 + 2, none⟩ (.int .i64 y.s)).setCell ⟨g, i * 4 + 3, none⟩ (.int .i64 y.i)).setCell ⟨g, k * 4, none⟩ (.int .i64 x.b)).setCell ⟨g, k * 4 + 1, none⟩ (.int .i64 x.d)).setCell ⟨g, k * 4 + 2, none⟩ (.int .i64 x.s)).setCell ⟨g, k * 4 + 3, none⟩ (.int .i64 x.i)) := ⟨_, rfl⟩
        rw [← hw2] at R G ⊢
        clear hw2
        go_wp2
        go_roundw
        case rel => exact ⟨i + 1, k - 1, by have := HIK.out; omega, by omega, by go_num, by congr 1; omega, R.out, G.out⟩
        case measure => simp [intOf]; omega
    · have hl2 : revK l i = l.reverse := revK_all l i (by rw [HN.out]; have := HIK.out; omega) (by rw [HN.out]; have := HIK.out; omega)
      rw [hl2] at hr
      have HR1 := Lib.hid hr
      clear hr hl2
      go_wp2
      go_end0
      exact ⟨rfl, HR1.out, HG.out⟩
end Go.Proofs.Ytiighhcilgjebaa
