/-
  What the document's Lex does at every text (package secateurref08).
-/
import Derived.Test.YtbadingdklenhaaGreatDoorLexRef
import Derived.Test.YtbadingdklenhaaGreatDoorLexRtok
import Derived.Test.YtbadingdklenhaaGreatDoorLexLex
namespace Go.Proofs.YtbadingdklenhaaGreatDoor
set_option maxRecDepth 100000
open Go.RowKit

theorem infoR : (Tryz.prog.info? 95).map (fun i => (i.zero, i.size, i.bytes)) = some (some (.agg #[.int .i64 0, .string ⟨#[]⟩, .int .i64 0, .int .i64 0, .int .i64 0]), 5, 48) := by kernel_rfl

/-- What stands in a round of the document's Lex: the result's place in block B, the tokens. -/
structure RAt (B : Nat) (w wr : World) (l : Value) (ts : List Tk) : Prop where
  mk ::
  own : wr.ownsRow (B + 1) 95 5 l ts.length (flatT ts)
  p0 : wr.cell? ⟨B, 0, none⟩ = some (.int .i64 0)
  p1 : wr.cell? ⟨B, 1, none⟩ = some (.int .i64 0)
  fp0 : wr.frozen? ⟨B, 0, none⟩ = false
  fp1 : wr.frozen? ⟨B, 1, none⟩ = false
  bel : Below B w wr
  lt : B < wr.heap.size
section
variable {B : Nat} {w wr w' : World} {l : Value} {ts : List Tk}
theorem RAt.on (h : RAt B w wr l ts) (hb : Below wr.heap.size wr w') : RAt B w w' l ts := by
  have hlt := h.lt
  have cB := fun j => cell_other (hb.block B hlt) j
  exact ⟨own_frame h.own (fun g _ hg => hb.block g hg), (cB 0).1.trans h.p0, (cB 1).1.trans h.p1, (cB 0).2.trans h.fp0, (cB 1).2.trans h.fp1, h.bel.trans (hb.mono (by omega)), by have := hb.size; omega⟩
theorem RAt.grow {l' : Value} {x : Tk} {o : Obj} (h : RAt B w wr l ts) (hg : (wr.alloc o).grownBy w' l.ownBlock) (hown : w'.ownsRow (B + 1) 95 5 l' (ts.length + 1) (flatT ts ++ cells5 x)) : RAt B w w' l' (ts ++ [x]) := by
  have hlt := h.lt
  have e1 : w'.heap[B]? = wr.heap[B]? := by
    refine (hg.block B (by simp; omega) ?_).trans (Below.heap_alloc wr o B (by omega))
    intro he
    have := (h.own.lt B he.symm).1
    omega
  have cB := fun j => cell_other e1 j
  refine ⟨?_, (cB 0).1.trans h.p0, (cB 1).1.trans h.p1, (cB 0).2.trans h.fp0, (cB 1).2.trans h.fp1, ?_, ?_⟩
  · rw [flatT_app, flatT_one, List.length_append]
    exact hown
  · exact (h.bel.alloc (by omega) o).grown hg (by simp; omega) (fun g he => by have := (h.own.lt g he).1; omega)
  · have := hg.size
    simp at this
    omega
end
theorem rAt_start (w : World) (t : TypeId) : RAt w.heap.size w (w.alloc (.cells #[.int .i64 0, .int .i64 0] t)) (.slice none 0 0) [] :=
  ⟨World.ownsRow_nil _ _ _ _, by simp [go_sem], by simp [go_sem], by simp [go_sem], by simp [go_sem], new_belowL _ _, by simp⟩

theorem lx_bad {a : UInt8} {r : List UInt8} (line col : Nat) (rm : Bool) (h : pt (a :: r) = 0) : lx (a :: r) line col rm = Rs.bad line col 20 := by
  rw [lx_cons, if_pos h]
theorem lx_line (r : List UInt8) (line col : Nat) (rm : Bool) : lx (10 :: r) line col rm = lx r (line + 1) 1 false := by
  rw [lx_cons, if_neg (by rw [pt_ascii (by decide)]; omega), if_pos rfl]
theorem lx_blank {a : UInt8} {r : List UInt8} (line col : Nat) {rm : Bool} (h : pt (a :: r) ≠ 0) (h10 : a ≠ 10) (hb : (rm || isB a) = true) : lx (a :: r) line col rm = lx (r.drop (pt (a :: r) - 1)) line (col + 1) (rm || a == 35) := by
  rw [lx_cons, if_neg h, if_neg h10, if_pos hb]
theorem lx_err {a : UInt8} {r : List UInt8} (line col : Nat) (h : pt (a :: r) ≠ 0) (h10 : a ≠ 10) (hb : isB a = false) (ht : (tk (a :: r)).1 ≠ 0) : lx (a :: r) line col false = Rs.bad line col (tk (a :: r)).1 := by
  rw [lx_cons, if_neg h, if_neg h10, if_neg (by rw [hb]; simp), if_pos ht]
theorem lx_tok {a : UInt8} {r : List UInt8} (line col : Nat) (h10 : a ≠ 10) (hb : isB a = false) (ht : (tk (a :: r)).1 = 0) : lx (a :: r) line col false = Rs.pre [tkAt (a :: r) line col] (lx ((a :: r).drop (tk (a :: r)).2.2.1) line (col + (tk (a :: r)).2.2.1) false) := by
  have h1 := (tk_len ht).1
  have hp : pt (a :: r) ≠ 0 := by
    obtain ⟨u, v, e, hu, h2, h3, _⟩ := tk_ok ht
    cases u with
    | nil => simp at h2
    | cons b u =>
      injection e with e1 e2
      rw [pt_ascii (h3 a (by rw [e1]; exact List.mem_cons_self ..)).1]
      omega
  rw [lx_cons, if_neg hp, if_neg h10, if_neg (by rw [hb]; simp), if_neg (by omega), drop_cons h1]
theorem tk_colon (r : List UInt8) : tk (58 :: r) = (0, 2, 1, 0) := by unfold tk; simp
theorem tk_none {a : UInt8} {r : List UInt8} (h1 : a ≠ 58) (h2 : ¬ (begins a r = true)) : tk (a :: r) = (20, 0, 0, 0) := by
  unfold tk
  simp only
  rw [if_neg h1, if_neg h2]
theorem tk_word {a : UInt8} {r : List UInt8} (h1 : a ≠ 58) (h2 : begins a r = true) : tk (a :: r) = ((rd (wd (a :: r))).1, (rd (wd (a :: r))).2.1, (wd (a :: r)).length, (rd (wd (a :: r))).2.2) := by
  unfold tk
  simp only
  rw [if_neg h1, if_pos h2]
theorem run_wd {a : UInt8} {r : List UInt8} (h2 : begins a r = true) : RunOk (wd (a :: r)) := by
  refine ⟨a, r.takeWhile isA, rfl, fun b hb => List.all_eq_true.1 List.all_takeWhile b hb, ?_⟩
  rcases begins_yes h2 with ⟨_, h⟩ | ⟨h, _, h3⟩
  · exact .inl h
  · refine .inr ⟨h, ?_⟩
    intro e
    rw [e] at h3
    simp at h3
theorem takeWhile_len {l : List UInt8} {p : UInt8 → Bool} {n : Nat} (h1 : ∀ j b, j < n → l[j]? = some b → p b = true) (hn : n ≤ l.length) (h2 : ∀ b, l[n]? = some b → p b = false) : (l.takeWhile p).length = n := by
  induction l generalizing n with
  | nil => simp at hn; simp [hn]
  | cons a l ih =>
    cases n with
    | zero =>
      have := h2 a rfl
      rw [List.takeWhile_cons, this]
      rfl
    | succ n =>
      have h3 := h1 0 a (by omega) rfl
      rw [List.takeWhile_cons, h3]
      simp only [if_true, List.length_cons]
      rw [ih (fun j b hj hb => h1 (j + 1) b (by omega) hb) (by simpa using hn) (fun b hb => h2 b hb)]
theorem extract_mid (s : ByteArray) (i k : Nat) : (s.extract i k).data.toList = (s.data.toList.drop i).take (k - i) := by
  rw [ByteArray.data_extract, Array.toList_extract, List.extract_eq_take_drop]

theorem wd_extract {s : ByteArray} {i k : Nat} {a : UInt8} {r : List UInt8} (hl : s.data.toList.drop i = a :: r) (hk : k = i + (wd (a :: r)).length) :
    (s.extract i k).data.toList = wd (a :: r) ∧ s.data.toList.drop k = (a :: r).drop (wd (a :: r)).length ∧ s.extract i k = ⟨((a :: r).take (wd (a :: r)).length).toArray⟩ := by
  have e1 : (a :: r).take (wd (a :: r)).length = wd (a :: r) := by
    obtain ⟨t, ht⟩ := wd_pre (a :: r)
    have h2 : (wd (a :: r) ++ t).take (wd (a :: r)).length = wd (a :: r) := List.take_left
    rw [← ht] at h2
    exact h2
  have e2 : (s.extract i k).data.toList = wd (a :: r) := by
    rw [extract_mid, hl, hk, show i + (wd (a :: r)).length - i = (wd (a :: r)).length by omega, e1]
  refine ⟨e2, ?_, ba_same ?_⟩
  · rw [hk, ← List.drop_drop, hl]
  · rw [e2, ba_list, e1]
theorem rlex_long (s : ByteArray) (h : 1048576 < s.size) (w : World) : Calls Tryz.prog 27 #[.string s] w (IsRs w (lexP s.data.toList) 95) := by
  have e : lexP s.data.toList = Rs.bad 1 1 7 := by unfold lexP; rw [if_pos (by rw [size_list]; exact h)]
  rw [e]
  have h' : (1048576 : Int) < (s.size : Int) := by omega
  clear e h
  go_enter Tryz.func27, Tryz.ntmps27
  go_wp2
  refine bodyPost_ret (v := .tuple #[.slice none 0 0, .agg #[.int .i64 1, .int .i64 1], .int .i64 7]) (by simp [results, Tryz.results27, go_sem]) rfl ⟨_, rfl, World.ownsRow_nil _ _ _ _, ?_⟩
  go_grown

set_option maxHeartbeats 20000000 in
theorem rlex_short (s : ByteArray) (h : s.size ≤ 1048576) (w : World) : Calls Tryz.prog 27 #[.string s] w (IsRs w (lexP s.data.toList) 95) := by
  have e : lexP s.data.toList = lx s.data.toList 1 1 false := by unfold lexP; rw [if_neg (by rw [size_list]; omega)]
  have h' : (s.size : Int) ≤ 1048576 := by omega
  rw [e]
  clear e
  have hsz := size_list s
  go_enter Tryz.func27, Tryz.ntmps27
  go_wp2
  go_loopw [5, 6, 7, 8, 9] (fun l ln cl rmv iv wr => ∃ (i line col : Nat) (rm : Bool) (ts : List Tk), i ≤ s.size ∧ line ≤ i + 1 ∧ col ≤ i + 1 ∧ ts.length ≤ i ∧ ln = .int .i64 (line : Nat) ∧ cl = .int .i64 (col : Nat) ∧ rmv = .bool rm ∧ iv = .int .i64 (i : Nat) ∧
    Hid (Rs.pre ts (lx (s.data.toList.drop i) line col rm) = lx s.data.toList 1 1 false) ∧ Hid (RAt w.heap.size w wr l ts)) (fun _ _ _ _ iv _ => s.size - (intOf iv).toNat)
  case atStart =>
    refine ⟨0, 1, 1, false, [], by omega, by omega, by omega, by simp, rfl, rfl, rfl, rfl, ?_, rAt_start _ _⟩
    show _ = _
    unfold Rs.pre
    split <;> rfl
  case round =>
    obtain ⟨i, line, col, rm, ts, hp, hl1, hc1, ht, rfl, rfl, rfl, rfl, hQ, hA⟩ := hrel
    by_cases hlt : i < s.size
    · obtain ⟨a, r, hl, ha⟩ := drop_at hlt
      have hsa : s[i]'hlt = a := (get_at s i hlt).symm.trans ha
      have PT := point_any s i hlt (by omega)
      rw [hl] at PT
      have RL := rLetter_any a
      have RD := rDigit_any a
      have hr : r = s.data.toList.drop (i + 1) := by
        rw [← List.drop_drop, hl]
        rfl
      have hlr : (a :: r).length + i = s.size := by
        have h6 : (s.data.toList.drop i).length = s.data.toList.length - i := List.length_drop
        rw [hl] at h6
        omega
      have i10 := byte_num (a := a) (n := 10) (by omega)
      have i32 := byte_num (a := a) (n := 32) (by omega)
      have i9 := byte_num (a := a) (n := 9) (by omega)
      have i13 := byte_num (a := a) (n := 13) (by omega)
      have i35 := byte_num (a := a) (n := 35) (by omega)
      have i45 := byte_num (a := a) (n := 45) (by omega)
      have i58 := byte_num (a := a) (n := 58) (by omega)
      have HQ := hQ.out
      rw [hl] at HQ
      -- what stands behind: is it a digit?
      have hnext : (a = 45 ∧ i + 1 < s.size) → ∃ b, (∃ h : i + 1 < s.size, s[i + 1]'h = b) ∧ begins a r = isD b := by
        rintro ⟨h45, hi1⟩
        obtain ⟨b, r2, hl2, hb2⟩ := drop_at hi1
        refine ⟨b, ⟨hi1, (get_at s (i + 1) hi1).symm.trans hb2⟩, ?_⟩
        rw [hr, hl2, h45]
        unfold begins
        simp [show isA 45 = false from rfl]
      have hlast : a = 45 → ¬ i + 1 < s.size → begins a r = false := by
        intro h45 hi1
        have : r = [] := by
          rw [hr]
          exact List.drop_eq_nil_of_le (by omega)
        rw [this, h45]
        rfl
      have hplain : a ≠ 45 → begins a r = (isL a || isD a) := by
        intro h45
        unfold begins
        have : (a == 45) = false := by simpa using h45
        rw [this, Bool.false_and, Bool.or_false]
        rfl
      by_cases h0 : pt (a :: r) = 0
      · rw [lx_bad line col rm h0, pre_bad ts (by omega)] at HQ
        have HR := Lib.hid HQ
        rw [h0] at PT
        obtain ⟨own, p0, p1, fp0, fp1, bel, lt⟩ := hA.out
        have BE := Lib.hid bel
        clear i10 i32 i9 i13 i35 i45 i58 hnext hlast hplain HQ hQ own bel RL RD hl ha hr hlr h0
        go_wp2_with fail
        with_reducible refine (PT _).mono ?_
        rintro e w1 ⟨rfl, hw⟩
        obtain rfl := hw.symm
        clear hw
        go_wp2
        refine bodyPost_ret (v := .tuple #[.slice none 0 0, .agg #[.int .i64 (line : Nat), .int .i64 (col : Nat)], .int .i64 20]) (by simp [results, Tryz.results27, go_sem, p0, p1]) rfl ?_
        rw [← HR.out]
        refine ⟨_, rfl, World.ownsRow_nil _ _ _ _, ?_⟩
        have BB := BE.out
        go_grown
      have hpi : ¬ ((pt (a :: r) : Nat) : Int) = 0 := by omega
      have hple : i + pt (a :: r) ≤ s.size := by
        have := (pt_bytes h0).1
        omega
      have hdr : s.data.toList.drop (i + pt (a :: r)) = r.drop (pt (a :: r) - 1) := by
        rw [← List.drop_drop, hl, ← drop_cons (by omega)]
      by_cases h10 : a = 10
      · have k10 : (a.toNat : Int) = 10 := i10.1 h10
        rw [h10, lx_line r line col rm, hr] at HQ
        have HR := Lib.hid HQ
        generalize pt (a :: r) = q at *
        generalize isL a = b1 at *
        generalize isD a = b2 at *
        clear i10 i32 i9 i13 i35 i45 i58 hnext hlast hplain HQ hQ hl ha hr hlr h0 hdr h10
        rw [k10] at RL RD
        go_wp2_with fail
        with_reducible refine (PT _).mono ?_
        rintro e w1 ⟨rfl, hw⟩
        obtain rfl := hw.symm
        clear hw
        go_wp2_with fail
        with_reducible refine (RL _).mono ?_
        rintro e w1 ⟨rfl, hw⟩
        obtain rfl := hw.symm
        clear hw
        go_wp2_with fail
        with_reducible refine (RD _).mono ?_
        rintro e w1 ⟨rfl, hw⟩
        obtain rfl := hw.symm
        clear hw
        go_wp2
        go_roundw
        case rel => exact ⟨i + 1, line + 1, 1, false, ts, by omega, by omega, by omega, by omega, by go_num, rfl, rfl, by go_num, HR, hA⟩
        case measure => simp [intOf]; omega
      have k10 : ¬ (a.toNat : Int) = 10 := fun h => h10 (i10.2 h)
      by_cases hrm : rm = true
      · subst hrm
        rw [lx_blank line col h0 h10 (by simp), ← hdr, Bool.true_or] at HQ
        have HR := Lib.hid HQ
        by_cases h45 : a = 45
        · have k45 : (a.toNat : Int) = 45 := i45.1 h45
          by_cases hi1 : i + 1 < s.size
          · obtain ⟨b, ⟨_, hb⟩, _⟩ := hnext ⟨h45, hi1⟩
            have RD2 := rDigit_any b
            have hp1 : 1 ≤ pt (a :: r) := by omega
            generalize pt (a :: r) = q at *
            generalize isL a = b1 at *
            generalize isD a = b2 at *
            generalize isD b = b3 at *
            clear i10 i32 i9 i13 i35 i45 i58 hnext hlast hplain HQ hQ hl ha hr hlr h0 hdr h10 h45
            rw [k45] at RL RD
            go_wp2_with fail
            with_reducible refine (PT _).mono ?_
            rintro e w1 ⟨rfl, hw⟩
            obtain rfl := hw.symm
            clear hw
            go_wp2_with fail
            with_reducible refine (RL _).mono ?_
            rintro e w1 ⟨rfl, hw⟩
            obtain rfl := hw.symm
            clear hw
            go_wp2_with fail
            with_reducible refine (RD _).mono ?_
            rintro e w1 ⟨rfl, hw⟩
            obtain rfl := hw.symm
            clear hw
            go_wp2_with fail
            with_reducible refine (RD2 _).mono ?_
            rintro e w1 ⟨rfl, hw⟩
            obtain rfl := hw.symm
            clear hw
            go_wp2
            go_roundw
            case rel => exact ⟨i + q, line, col + 1, true, ts, by omega, by omega, by omega, by omega, rfl, by go_num, rfl, by go_num, HR, hA⟩
            case measure => simp [intOf]; omega
          · have hp1 : 1 ≤ pt (a :: r) := by omega
            generalize pt (a :: r) = q at *
            generalize isL a = b1 at *
            generalize isD a = b2 at *
            clear i10 i32 i9 i13 i35 i45 i58 hnext hlast hplain HQ hQ hl ha hr hlr h0 hdr h10 h45
            rw [k45] at RL RD
            go_wp2_with fail
            with_reducible refine (PT _).mono ?_
            rintro e w1 ⟨rfl, hw⟩
            obtain rfl := hw.symm
            clear hw
            go_wp2_with fail
            with_reducible refine (RL _).mono ?_
            rintro e w1 ⟨rfl, hw⟩
            obtain rfl := hw.symm
            clear hw
            go_wp2_with fail
            with_reducible refine (RD _).mono ?_
            rintro e w1 ⟨rfl, hw⟩
            obtain rfl := hw.symm
            clear hw
            go_wp2
            go_roundw
            case rel => exact ⟨i + q, line, col + 1, true, ts, by omega, by omega, by omega, by omega, rfl, by go_num, rfl, by go_num, HR, hA⟩
            case measure => simp [intOf]; omega
        · have k45 : ¬ (a.toNat : Int) = 45 := fun h => h45 (i45.2 h)
          have hp1 : 1 ≤ pt (a :: r) := by omega
          generalize pt (a :: r) = q at *
          generalize isL a = b1 at *
          generalize isD a = b2 at *
          clear i10 i32 i9 i13 i35 i45 i58 hnext hlast hplain HQ hQ hl ha hr hlr h0 hdr h10 h45
          go_wp2_with fail
          with_reducible refine (PT _).mono ?_
          rintro e w1 ⟨rfl, hw⟩
          obtain rfl := hw.symm
          clear hw
          go_wp2_with fail
          with_reducible refine (RL _).mono ?_
          rintro e w1 ⟨rfl, hw⟩
          obtain rfl := hw.symm
          clear hw
          go_wp2_with fail
          with_reducible refine (RD _).mono ?_
          rintro e w1 ⟨rfl, hw⟩
          obtain rfl := hw.symm
          clear hw
          go_wp2
          go_roundw
          case rel => exact ⟨i + q, line, col + 1, true, ts, by omega, by omega, by omega, by omega, rfl, by go_num, rfl, by go_num, HR, hA⟩
          case measure => simp [intOf]; omega
      have hrm' : rm = false := by simpa using hrm
      subst hrm'
      clear hrm
      by_cases hB : isB a = true
      · rw [lx_blank line col h0 h10 (by simpa using hB), ← hdr, Bool.false_or] at HQ
        have hor : ((a.toNat : Int) = 32 ∨ (a.toNat : Int) = 9 ∨ (a.toNat : Int) = 13 ∨ (a.toNat : Int) = 35) := by
          unfold isB at hB
          simp only [Bool.or_eq_true, beq_iff_eq] at hB
          rcases hB with ((h | h) | h) | h
          · exact .inl (i32.1 h)
          · exact .inr (.inl (i9.1 h))
          · exact .inr (.inr (.inl (i13.1 h)))
          · exact .inr (.inr (.inr (i35.1 h)))
        have hp1 : 1 ≤ pt (a :: r) := by omega
        have k45 : ¬ (a.toNat : Int) = 45 := by omega
        by_cases h35 : a = 35
        · have k35 : (a.toNat : Int) = 35 := i35.1 h35
          rw [show (a == 35) = true by simpa using h35] at HQ
          have HR := Lib.hid HQ
          generalize pt (a :: r) = q at *
          generalize isL a = b1 at *
          generalize isD a = b2 at *
          clear i10 i32 i9 i13 i35 i45 i58 hnext hlast hplain HQ hQ hl ha hr hlr h0 hdr h10 h35 hB hor
          rw [k35] at RL RD
          go_wp2_with fail
          with_reducible refine (PT _).mono ?_
          rintro e w1 ⟨rfl, hw⟩
          obtain rfl := hw.symm
          clear hw
          go_wp2_with fail
          with_reducible refine (RL _).mono ?_
          rintro e w1 ⟨rfl, hw⟩
          obtain rfl := hw.symm
          clear hw
          go_wp2_with fail
          with_reducible refine (RD _).mono ?_
          rintro e w1 ⟨rfl, hw⟩
          obtain rfl := hw.symm
          clear hw
          go_wp2
          go_roundw
          case rel => exact ⟨i + q, line, col + 1, true, ts, by omega, by omega, by omega, by omega, rfl, by go_num, rfl, by go_num, HR, hA⟩
          case measure => simp [intOf]; omega
        · have k35 : ¬ (a.toNat : Int) = 35 := fun h => h35 (i35.2 h)
          rw [show (a == 35) = false by simpa using h35] at HQ
          have HR := Lib.hid HQ
          generalize pt (a :: r) = q at *
          generalize isL a = b1 at *
          generalize isD a = b2 at *
          clear i10 i32 i9 i13 i35 i45 i58 hnext hlast hplain HQ hQ hl ha hr hlr h0 hdr h10 h35 hB
          rcases hor with h | h | h | h
          · rw [h] at RL RD
            go_wp2_with fail
            with_reducible refine (PT _).mono ?_
            rintro e w1 ⟨rfl, hw⟩
            obtain rfl := hw.symm
            clear hw
            go_wp2_with fail
            with_reducible refine (RL _).mono ?_
            rintro e w1 ⟨rfl, hw⟩
            obtain rfl := hw.symm
            clear hw
            go_wp2_with fail
            with_reducible refine (RD _).mono ?_
            rintro e w1 ⟨rfl, hw⟩
            obtain rfl := hw.symm
            clear hw
            go_wp2
            go_roundw
            case rel => exact ⟨i + q, line, col + 1, false, ts, by omega, by omega, by omega, by omega, rfl, by go_num, rfl, by go_num, HR, hA⟩
            case measure => simp [intOf]; omega
          · rw [h] at RL RD
            go_wp2_with fail
            with_reducible refine (PT _).mono ?_
            rintro e w1 ⟨rfl, hw⟩
            obtain rfl := hw.symm
            clear hw
            go_wp2_with fail
            with_reducible refine (RL _).mono ?_
            rintro e w1 ⟨rfl, hw⟩
            obtain rfl := hw.symm
            clear hw
            go_wp2_with fail
            with_reducible refine (RD _).mono ?_
            rintro e w1 ⟨rfl, hw⟩
            obtain rfl := hw.symm
            clear hw
            go_wp2
            go_roundw
            case rel => exact ⟨i + q, line, col + 1, false, ts, by omega, by omega, by omega, by omega, rfl, by go_num, rfl, by go_num, HR, hA⟩
            case measure => simp [intOf]; omega
          · rw [h] at RL RD
            go_wp2_with fail
            with_reducible refine (PT _).mono ?_
            rintro e w1 ⟨rfl, hw⟩
            obtain rfl := hw.symm
            clear hw
            go_wp2_with fail
            with_reducible refine (RL _).mono ?_
            rintro e w1 ⟨rfl, hw⟩
            obtain rfl := hw.symm
            clear hw
            go_wp2_with fail
            with_reducible refine (RD _).mono ?_
            rintro e w1 ⟨rfl, hw⟩
            obtain rfl := hw.symm
            clear hw
            go_wp2
            go_roundw
            case rel => exact ⟨i + q, line, col + 1, false, ts, by omega, by omega, by omega, by omega, rfl, by go_num, rfl, by go_num, HR, hA⟩
            case measure => simp [intOf]; omega
          · exact absurd h k35
      have hB' : isB a = false := by simpa using hB
      have hbb : ¬ (a.toNat : Int) = 32 ∧ ¬ (a.toNat : Int) = 9 ∧ ¬ (a.toNat : Int) = 13 ∧ ¬ (a.toNat : Int) = 35 := by
        unfold isB at hB
        simp only [Bool.or_eq_true, beq_iff_eq, not_or] at hB
        exact ⟨fun h => hB.1.1.1 (i32.2 h), fun h => hB.1.1.2 (i9.2 h), fun h => hB.1.2 (i13.2 h), fun h => hB.2 (i35.2 h)⟩
      obtain ⟨k32, k9, k13, k35⟩ := hbb
      have q32 : ((a.toNat : Int) == 32) = false := beq_eq_false_iff_ne.2 k32
      have q9 : ((a.toNat : Int) == 9) = false := beq_eq_false_iff_ne.2 k9
      have q13 : ((a.toNat : Int) == 13) = false := beq_eq_false_iff_ne.2 k13
      have q35 : ((a.toNat : Int) == 35) = false := beq_eq_false_iff_ne.2 k35
      clear hB
      by_cases h58 : a = 58
      · have k58 : (a.toNat : Int) = 58 := i58.1 h58
        have k45 : ¬ (a.toNat : Int) = 45 := by omega
        have htk : tk (a :: r) = (0, 2, 1, 0) := by rw [h58]; exact tk_colon r
        rw [lx_tok line col h10 hB' (by rw [htk]), pre_pre] at HQ
        have hX : tkAt (a :: r) line col = ⟨2, [58], 0, line, col⟩ := by
          unfold tkAt
          rw [htk, h58]
          rfl
        rw [hX, htk, show (a :: r).drop 1 = s.data.toList.drop (i + 1) from hr] at HQ
        have HR := Lib.hid HQ
        obtain ⟨i0, hi, hz0, hz1, hz2⟩ := info_parts infoR
        have htl : ts.length ≤ 1048576 := by omega
        have hAlt := hA.out.lt
        generalize pt (a :: r) = q at *
        generalize isL a = b1 at *
        generalize isD a = b2 at *
        clear i10 i32 i9 i13 i35 i45 i58 hnext hlast hplain HQ hQ hl ha hr hlr h0 hdr h10 h58 htk hX hB'
        rw [k58] at RL RD
        go_wp2_with fail
        with_reducible refine (PT _).mono ?_
        rintro e w1 ⟨rfl, hw⟩
        obtain rfl := hw.symm
        clear hw
        go_wp2_with fail
        with_reducible refine (RL _).mono ?_
        rintro e w1 ⟨rfl, hw⟩
        obtain rfl := hw.symm
        clear hw
        go_wp2_with fail
        with_reducible refine (RD _).mono ?_
        rintro e w1 ⟨rfl, hw⟩
        obtain rfl := hw.symm
        clear hw
        go_wp2_with (at_builtin; refine wpList_append_own _ rfl _ _ 84 rfl (w.heap.size + 1) 95 i0 (.agg #[.int .i64 0, .string ⟨#[]⟩, .int .i64 0, .int .i64 0, .int .i64 0]) 5 48 Tryz.underlying84 hi hz0 hz1 hz2 rfl (by decide) _ _ _ rfl (hA.out.own.alloc _) ⟨wr.heap.size, 0, none⟩ 1 1 [.int .i64 2, .string ⟨#[58]⟩, .int .i64 0, .int .i64 (line : Nat), .int .i64 (col : Nat)] rfl rfl ?d1 ?d2 ?d3 ?d4 ?d5 ?_)
        case d1 => exact lit5 _ _ _ _ _ _ _
        case d2 => exact one5 _ _ _ _ _
        case d3 => unfold maxLen; omega
        case d4 => omega
        case d5 => simp; omega
        · intro v' w3 hown' hgrow _
          have hA3 := Lib.hid (hA.out.grow (x := ⟨2, [58], 0, line, col⟩) hgrow hown')
          clear hown' hgrow hA
          go_wp2
          go_roundw
          case rel => exact ⟨i + 1, line, col + 1, false, ts ++ [⟨2, [58], 0, line, col⟩], by omega, by omega, by omega, by simp; omega, rfl, by go_num, rfl, by go_num, HR, hA3⟩
          case measure => simp [intOf]; omega
      have k58 : ¬ (a.toNat : Int) = 58 := fun h => h58 (i58.2 h)
      by_cases hbg : begins a r = true
      · have htk := tk_word h58 hbg
        have HT := Lib.hid htk
        have HB := Lib.hid hbg
        have HB2 := Lib.hid hB'
        have H10 := Lib.hid h10
        have H0 := Lib.hid h0
        have HQ2 := Lib.hid HQ
        have HL := Lib.hid hl
        have HRr := Lib.hid hr
        have HLr := Lib.hid hlr
        have HW : Hid ((wd (a :: r)).length = 1 + (r.takeWhile isA).length) := by
          show _ = _
          show (a :: r.takeWhile isA).length = _
          rw [List.length_cons]
          omega
        obtain ⟨i0, hi, hz0, hz1, hz2⟩ := info_parts infoR
        have htl : ts.length ≤ 1048576 := by omega
        by_cases h45 : a = 45
        · have k45 : (a.toNat : Int) = 45 := i45.1 h45
          have hi1 : i + 1 < s.size := by
            rcases Nat.lt_or_ge (i + 1) s.size with h8 | h8
            · exact h8
            · have := hlast h45 (by omega)
              rw [this] at hbg
              cases hbg
          obtain ⟨b, ⟨_, hb⟩, hbd⟩ := hnext ⟨h45, hi1⟩
          have RD2 := rDigit_any b
          rw [← hbd, hbg] at RD2
          have e45 : isL a = false := by rw [h45]; rfl
          rw [e45] at RL
          generalize hq : pt (a :: r) = q at PT hpi hple
          generalize isD a = b2 at RD
          clear i10 i32 i9 i13 i35 i45 i58 hnext hlast hplain HQ hQ hl ha hr hlr h0 hdr h10 hB' h45 h58 htk hbg hbd e45 hq
          rw [k45] at RL RD
          go_wp2_with fail
          with_reducible refine (PT _).mono ?_
          rintro e w1 ⟨rfl, hw⟩
          obtain rfl := hw.symm
          clear hw
          go_wp2_with fail
          with_reducible refine (RL _).mono ?_
          rintro e w1 ⟨rfl, hw⟩
          obtain rfl := hw.symm
          clear hw
          go_wp2_with fail
          with_reducible refine (RD _).mono ?_
          rintro e w1 ⟨rfl, hw⟩
          obtain rfl := hw.symm
          clear hw
          go_wp2_with fail
          with_reducible refine (RD2 _).mono ?_
          rintro e w1 ⟨rfl, hw⟩
          obtain rfl := hw.symm
          clear hw
          clear PT RL RD RD2
          go_wp2
          obtain ⟨wO, hwO⟩ : ∃ x, x = wr := ⟨wr, rfl⟩
          subst hwO
          go_loopw [14] (fun kv wr => ∃ k : Nat, i + 1 ≤ k ∧ k ≤ s.size ∧ kv = .int .i64 (k : Nat) ∧ Hid (∀ j b, j < k - (i + 1) → r[j]? = some b → isA b = true) ∧ wr = wO) (fun kv _ => s.size - (intOf kv).toNat)
          case atStart => exact ⟨i + 1, by omega, by omega, by go_num, fun j b hj => by omega, rfl⟩
          case round =>
            obtain ⟨k, hk1, hk2, rfl, hall, rfl⟩ := hrel
            by_cases hkl : k < s.size
            · obtain ⟨b, hb⟩ : ∃ b, s[k]'hkl = b := ⟨_, rfl⟩
              have hrk : r[k - (i + 1)]? = some b := by
                have h7 := at_byte hkl
                rw [hb] at h7
                rw [HRr.out, List.getElem?_drop, show i + 1 + (k - (i + 1)) = k by omega]
                exact h7
              have KL := rLetter_any b
              have KD := rDigit_any b
              by_cases hA1 : isA b = true
              · have hall2 : Hid (∀ j b, j < k + 1 - (i + 1) → r[j]? = some b → isA b = true) := by
                  intro j c hj hc
                  by_cases hjk : j = k - (i + 1)
                  · rw [hjk, hrk] at hc
                    rw [← Option.some.inj hc]
                    exact hA1
                  · exact hall.out j c (by omega) hc
                clear hall hrk
                unfold isA at hA1
                by_cases hL1 : isL b = true
                · rw [hL1] at KL
                  generalize isD b = b9 at *
                  clear hA1 hL1
                  go_wp2_with fail
                  with_reducible refine (KL _).mono ?_
                  rintro e w1 ⟨rfl, hw⟩
                  obtain rfl := hw.symm
                  clear hw
                  go_wp2_with fail
                  with_reducible refine (KD _).mono ?_
                  rintro e w1 ⟨rfl, hw⟩
                  obtain rfl := hw.symm
                  clear hw
                  go_wp2
                  go_roundw
                  case rel => exact ⟨k + 1, by omega, by omega, by go_num, hall2, trivial⟩
                  case measure => simp [intOf]; omega
                · have hL2 : isL b = false := by simpa using hL1
                  rw [hL2, Bool.false_or] at hA1
                  rw [hL2] at KL
                  rw [hA1] at KD
                  clear hA1 hL1 hL2
                  go_wp2_with fail
                  with_reducible refine (KL _).mono ?_
                  rintro e w1 ⟨rfl, hw⟩
                  obtain rfl := hw.symm
                  clear hw
                  go_wp2_with fail
                  with_reducible refine (KD _).mono ?_
                  rintro e w1 ⟨rfl, hw⟩
                  obtain rfl := hw.symm
                  clear hw
                  go_wp2
                  go_roundw
                  case rel => exact ⟨k + 1, by omega, by omega, by go_num, hall2, trivial⟩
                  case measure => simp [intOf]; omega
              · have hA2 : isA b = false := by simpa using hA1
                have hLD : isL b = false ∧ isD b = false := by unfold isA at hA2; simpa using hA2
                rw [hLD.1] at KL
                rw [hLD.2] at KD
                have htw : (r.takeWhile isA).length = k - (i + 1) := takeWhile_len hall.out (by have := HLr.out; simp only [List.length_cons] at this; omega) (fun c hc => by rw [hrk] at hc; rw [← Option.some.inj hc]; exact hA2)
                clear hall hrk hA1 hA2 hLD
                go_wp2_with fail
                with_reducible refine (KL _).mono ?_
                rintro e w1 ⟨rfl, hw⟩
                obtain rfl := hw.symm
                clear hw
                go_wp2_with fail
                with_reducible refine (KD _).mono ?_
                rintro e w1 ⟨rfl, hw⟩
                obtain rfl := hw.symm
                clear hw
                clear KL KD
                have hkk : k = i + (wd (a :: r)).length := by
                  have := HW.out
                  omega
                obtain ⟨hX, hDr, hY⟩ := wd_extract HL.out hkk
                have RT := rtoken_any (s.extract i k) (by rw [ByteArray.size_extract]; omega) (by rw [hX]; exact run_wd HB.out)
                have hV : rdV (s.extract i k) = .tuple #[tokV ((tk (a :: r)).2.1 : Nat) (if (tk (a :: r)).1 = 0 then s.extract i k else ⟨#[]⟩) (tk (a :: r)).2.2.2 0 0, .int .i64 ((tk (a :: r)).1 : Nat)] := by
                  unfold rdV
                  rw [hX, HT.out]
                rw [hV] at RT
                have hlen : (tk (a :: r)).2.2.1 = (wd (a :: r)).length := by rw [HT.out]
                by_cases hte : (tk (a :: r)).1 = 0
                · rw [if_pos hte, hte] at RT
                  have hQ1 := HQ2.out
                  rw [lx_tok line col H10.out HB2.out hte, pre_pre, hlen, ← hDr] at hQ1
                  have hG : ∀ (w5 w6 : World) (l' : Value) (o : Obj), RAt w.heap.size w w5 u5 ts → (w5.alloc o).grownBy w6 u5.ownBlock →
                      w6.ownsRow (w.heap.size + 1) 95 5 l' (ts.length + 1) (flatT ts ++ [.int .i64 ((tk (a :: r)).2.1 : Nat), .string (s.extract i k), .int .i64 (tk (a :: r)).2.2.2, .int .i64 (line : Nat), .int .i64 (col : Nat)]) →
                      RAt w.heap.size w w6 l' (ts ++ [tkAt (a :: r) line col]) := by
                    intro w5 w6 l' o h1 h2 h3
                    refine h1.grow (x := tkAt (a :: r) line col) h2 ?_
                    rw [← hlen] at hY
                    unfold cells5 tkAt
                    rw [← hY]
                    exact h3
                  have hG2 := Lib.hid hG
                  have hcol : col + (wd (a :: r)).length = col + k - i := by omega
                  rw [hcol] at hQ1
                  have HR := Lib.hid hQ1
                  have hkg : i + 1 ≤ k := by omega
                  clear hG hQ1 hV hX hDr hY htw hlen hte HQ2 HT HB HW hkk hcol
                  generalize tkAt (a :: r) line col = X at *
                  generalize ((tk (a :: r)).2.1 : Nat) = q1 at *
                  generalize (tk (a :: r)).2.2.2 = q2 at *
                  go_wp2_with fail
                  with_reducible refine (RT _).mono ?_
                  rintro e w4 ⟨rfl, b4⟩
                  have hA5 := Lib.hid (hA.out.on b4)
                  clear b4 RT
                  have b6 := new_belowL w4 (.cells #[.int .i64 (q1 : Nat), .string (s.extract i k), .int .i64 q2, .int .i64 (line : Nat), .int .i64 (col : Nat)] 95)
                  have hA6 := Lib.hid (hA5.out.on b6)
                  have hAlt := hA5.out.lt
                  clear b6
                  unfold tokV
                  go_wp2_with (at_builtin; refine wpList_append_own _ rfl _ _ 84 rfl (w.heap.size + 1) 95 i0 (.agg #[.int .i64 0, .string ⟨#[]⟩, .int .i64 0, .int .i64 0, .int .i64 0]) 5 48 Tryz.underlying84 hi hz0 hz1 hz2 rfl (by decide) _ _ _ rfl (hA6.out.own.alloc _) ⟨w4.heap.size + 1, 0, none⟩ 1 1 [.int .i64 (q1 : Nat), .string (s.extract i k), .int .i64 q2, .int .i64 (line : Nat), .int .i64 (col : Nat)] rfl rfl ?fx1 ?fx2 ?fx3 ?fx4 ?fx5 ?_)
                  case fx1 =>
                    have := lit5 (w4.alloc (.cells #[.int .i64 (q1 : Nat), .string (s.extract i k), .int .i64 q2, .int .i64 (line : Nat), .int .i64 (col : Nat)] 95)) (.int .i64 (q1 : Nat)) (.string (s.extract i k)) (.int .i64 q2) (.int .i64 (line : Nat)) (.int .i64 (col : Nat)) 95
                    simpa using this
                  case fx2 => exact one5 _ _ _ _ _
                  case fx3 => unfold maxLen; omega
                  case fx4 => omega
                  case fx5 => simp; omega
                  · intro v' w7 hown' hgrow _
                    have hA7 := Lib.hid (hG2.out _ _ _ _ hA6.out hgrow hown')
                    clear hown' hgrow hA6 hA5 hG2
                    go_wp2
                    go_roundw
                    case rel => exact ⟨k, line, col + k - i, false, ts ++ [X], by omega, by omega, by omega, by simp; omega, rfl, by go_num, rfl, rfl, HR, hA7⟩
                    case measure => simp [intOf]; omega
                · rw [if_neg hte] at RT
                  have hQ1 := HQ2.out
                  have hp0 := H0.out
                  rw [lx_err line col hp0 H10.out HB2.out hte, pre_bad ts hte] at hQ1
                  have HR := Lib.hid hQ1
                  have hte' : ¬ (((tk (a :: r)).1 : Nat) : Int) = 0 := by omega
                  clear hQ1 hV hX hDr hY htw hlen hte HQ2 HT HB HW hkk hp0
                  generalize (tk (a :: r)).1 = er at *
                  generalize ((tk (a :: r)).2.1 : Nat) = q1 at *
                  generalize (tk (a :: r)).2.2.2 = q2 at *
                  go_wp2_with fail
                  with_reducible refine (RT _).mono ?_
                  rintro e w4 ⟨rfl, b4⟩
                  have b5 := new_belowL w4 (.cells #[.int .i64 (q1 : Nat), .string ⟨#[]⟩, .int .i64 q2, .int .i64 0, .int .i64 0] 95)
                  obtain ⟨own, p0, p1, fp0, fp1, bel, lt⟩ := (hA.out.on b4).on b5
                  have BE := Lib.hid bel
                  clear own bel b4 b5 RT
                  unfold tokV
                  go_wp2
                  refine bodyPost_ret (v := .tuple #[.slice none 0 0, .agg #[.int .i64 (line : Nat), .int .i64 (col : Nat)], .int .i64 (er : Nat)]) (by simp [results, Tryz.results27, go_sem, p0, p1]) rfl ?_
                  rw [← HR.out]
                  refine ⟨_, rfl, World.ownsRow_nil _ _ _ _, ?_⟩
                  have BB := BE.out
                  go_grown
            · obtain rfl : k = s.size := by omega
              have htw : (r.takeWhile isA).length = s.size - (i + 1) := takeWhile_len hall.out (by have := HLr.out; simp only [List.length_cons] at this; omega) (fun c hc => by
                have := HLr.out
                simp only [List.length_cons] at this
                rw [List.getElem?_eq_none (by omega)] at hc
                cases hc)
              clear hall
              have hkk : s.size = i + (wd (a :: r)).length := by
                have := HW.out
                omega
              obtain ⟨hX, hDr, hY⟩ := wd_extract HL.out hkk
              have RT := rtoken_any (s.extract i s.size) (by rw [ByteArray.size_extract]; omega) (by rw [hX]; exact run_wd HB.out)
              have hV : rdV (s.extract i s.size) = .tuple #[tokV ((tk (a :: r)).2.1 : Nat) (if (tk (a :: r)).1 = 0 then s.extract i s.size else ⟨#[]⟩) (tk (a :: r)).2.2.2 0 0, .int .i64 ((tk (a :: r)).1 : Nat)] := by
                unfold rdV
                rw [hX, HT.out]
              rw [hV] at RT
              have hlen : (tk (a :: r)).2.2.1 = (wd (a :: r)).length := by rw [HT.out]
              by_cases hte : (tk (a :: r)).1 = 0
              · rw [if_pos hte, hte] at RT
                have hQ1 := HQ2.out
                rw [lx_tok line col H10.out HB2.out hte, pre_pre, hlen, ← hDr] at hQ1
                have hG : ∀ (w5 w6 : World) (l' : Value) (o : Obj), RAt w.heap.size w w5 u5 ts → (w5.alloc o).grownBy w6 u5.ownBlock →
                    w6.ownsRow (w.heap.size + 1) 95 5 l' (ts.length + 1) (flatT ts ++ [.int .i64 ((tk (a :: r)).2.1 : Nat), .string (s.extract i s.size), .int .i64 (tk (a :: r)).2.2.2, .int .i64 (line : Nat), .int .i64 (col : Nat)]) →
                    RAt w.heap.size w w6 l' (ts ++ [tkAt (a :: r) line col]) := by
                  intro w5 w6 l' o h1 h2 h3
                  refine h1.grow (x := tkAt (a :: r) line col) h2 ?_
                  rw [← hlen] at hY
                  unfold cells5 tkAt
                  rw [← hY]
                  exact h3
                have hG2 := Lib.hid hG
                have hcol : col + (wd (a :: r)).length = col + s.size - i := by omega
                rw [hcol] at hQ1
                have HR := Lib.hid hQ1
                have hkg : i + 1 ≤ s.size := by omega
                clear hG hQ1 hV hX hDr hY htw hlen hte HQ2 HT HB HW hkk hcol
                generalize tkAt (a :: r) line col = X at *
                generalize ((tk (a :: r)).2.1 : Nat) = q1 at *
                generalize (tk (a :: r)).2.2.2 = q2 at *
                go_wp2_with fail
                with_reducible refine (RT _).mono ?_
                rintro e w4 ⟨rfl, b4⟩
                have hA5 := Lib.hid (hA.out.on b4)
                clear b4 RT
                have b6 := new_belowL w4 (.cells #[.int .i64 (q1 : Nat), .string (s.extract i s.size), .int .i64 q2, .int .i64 (line : Nat), .int .i64 (col : Nat)] 95)
                have hA6 := Lib.hid (hA5.out.on b6)
                have hAlt := hA5.out.lt
                clear b6
                unfold tokV
                go_wp2_with (at_builtin; refine wpList_append_own _ rfl _ _ 84 rfl (w.heap.size + 1) 95 i0 (.agg #[.int .i64 0, .string ⟨#[]⟩, .int .i64 0, .int .i64 0, .int .i64 0]) 5 48 Tryz.underlying84 hi hz0 hz1 hz2 rfl (by decide) _ _ _ rfl (hA6.out.own.alloc _) ⟨w4.heap.size + 1, 0, none⟩ 1 1 [.int .i64 (q1 : Nat), .string (s.extract i s.size), .int .i64 q2, .int .i64 (line : Nat), .int .i64 (col : Nat)] rfl rfl ?fy1 ?fy2 ?fy3 ?fy4 ?fy5 ?_)
                case fy1 =>
                  have := lit5 (w4.alloc (.cells #[.int .i64 (q1 : Nat), .string (s.extract i s.size), .int .i64 q2, .int .i64 (line : Nat), .int .i64 (col : Nat)] 95)) (.int .i64 (q1 : Nat)) (.string (s.extract i s.size)) (.int .i64 q2) (.int .i64 (line : Nat)) (.int .i64 (col : Nat)) 95
                  simpa using this
                case fy2 => exact one5 _ _ _ _ _
                case fy3 => unfold maxLen; omega
                case fy4 => omega
                case fy5 => simp; omega
                · intro v' w7 hown' hgrow _
                  have hA7 := Lib.hid (hG2.out _ _ _ _ hA6.out hgrow hown')
                  clear hown' hgrow hA6 hA5 hG2
                  go_wp2
                  go_roundw
                  case rel => exact ⟨s.size, line, col + s.size - i, false, ts ++ [X], by omega, by omega, by omega, by simp; omega, rfl, by go_num, rfl, rfl, HR, hA7⟩
                  case measure => simp [intOf]; omega
              · rw [if_neg hte] at RT
                have hQ1 := HQ2.out
                have hp0 := H0.out
                rw [lx_err line col hp0 H10.out HB2.out hte, pre_bad ts hte] at hQ1
                have HR := Lib.hid hQ1
                have hte' : ¬ (((tk (a :: r)).1 : Nat) : Int) = 0 := by omega
                clear hQ1 hV hX hDr hY htw hlen hte HQ2 HT HB HW hkk hp0
                generalize (tk (a :: r)).1 = er at *
                generalize ((tk (a :: r)).2.1 : Nat) = q1 at *
                generalize (tk (a :: r)).2.2.2 = q2 at *
                go_wp2_with fail
                with_reducible refine (RT _).mono ?_
                rintro e w4 ⟨rfl, b4⟩
                have b5 := new_belowL w4 (.cells #[.int .i64 (q1 : Nat), .string ⟨#[]⟩, .int .i64 q2, .int .i64 0, .int .i64 0] 95)
                obtain ⟨own, p0, p1, fp0, fp1, bel, lt⟩ := (hA.out.on b4).on b5
                have BE := Lib.hid bel
                clear own bel b4 b5 RT
                unfold tokV
                go_wp2
                refine bodyPost_ret (v := .tuple #[.slice none 0 0, .agg #[.int .i64 (line : Nat), .int .i64 (col : Nat)], .int .i64 (er : Nat)]) (by simp [results, Tryz.results27, go_sem, p0, p1]) rfl ?_
                rw [← HR.out]
                refine ⟨_, rfl, World.ownsRow_nil _ _ _ _, ?_⟩
                have BB := BE.out
                go_grown
        · have k45 : ¬ (a.toNat : Int) = 45 := fun h => h45 (i45.2 h)
          have hor := hplain h45
          have q45 : ((a.toNat : Int) == 45) = false := beq_eq_false_iff_ne.2 k45
          have q10 : ((a.toNat : Int) == 10) = false := beq_eq_false_iff_ne.2 k10
          have q58 : ((a.toNat : Int) == 58) = false := beq_eq_false_iff_ne.2 k58
          clear k45 k10 k58 k32 k9 k13 k35
          rw [hbg] at hor
          by_cases hL1 : isL a = true
          · rw [hL1] at RL
            generalize hq : pt (a :: r) = q at PT hpi hple
            generalize isD a = b2 at RD
            clear i10 i32 i9 i13 i35 i45 i58 hnext hlast hplain HQ hQ hl ha hr hlr h0 hdr h10 hB' h45 h58 htk hbg hL1 hor hq
            go_wp2_with fail
            with_reducible refine (PT _).mono ?_
            rintro e w1 ⟨rfl, hw⟩
            obtain rfl := hw.symm
            clear hw
            go_wp2_with fail
            with_reducible refine (RL _).mono ?_
            rintro e w1 ⟨rfl, hw⟩
            obtain rfl := hw.symm
            clear hw
            go_wp2_with fail
            with_reducible refine (RD _).mono ?_
            rintro e w1 ⟨rfl, hw⟩
            obtain rfl := hw.symm
            clear hw
            clear PT RL RD
            go_wp2
            obtain ⟨wO, hwO⟩ : ∃ x, x = wr := ⟨wr, rfl⟩
            subst hwO
            go_loopw [14] (fun kv wr => ∃ k : Nat, i + 1 ≤ k ∧ k ≤ s.size ∧ kv = .int .i64 (k : Nat) ∧ Hid (∀ j b, j < k - (i + 1) → r[j]? = some b → isA b = true) ∧ wr = wO) (fun kv _ => s.size - (intOf kv).toNat)
            case atStart => exact ⟨i + 1, by omega, by omega, by go_num, fun j b hj => by omega, rfl⟩
            case round =>
              obtain ⟨k, hk1, hk2, rfl, hall, rfl⟩ := hrel
              by_cases hkl : k < s.size
              · obtain ⟨b, hb⟩ : ∃ b, s[k]'hkl = b := ⟨_, rfl⟩
                have hrk : r[k - (i + 1)]? = some b := by
                  have h7 := at_byte hkl
                  rw [hb] at h7
                  rw [HRr.out, List.getElem?_drop, show i + 1 + (k - (i + 1)) = k by omega]
                  exact h7
                have KL := rLetter_any b
                have KD := rDigit_any b
                by_cases hA1 : isA b = true
                · have hall2 : Hid (∀ j b, j < k + 1 - (i + 1) → r[j]? = some b → isA b = true) := by
                    intro j c hj hc
                    by_cases hjk : j = k - (i + 1)
                    · rw [hjk, hrk] at hc
                      rw [← Option.some.inj hc]
                      exact hA1
                    · exact hall.out j c (by omega) hc
                  clear hall hrk
                  unfold isA at hA1
                  by_cases hL1 : isL b = true
                  · rw [hL1] at KL
                    generalize isD b = b9 at *
                    clear hA1 hL1
                    go_wp2_with fail
                    with_reducible refine (KL _).mono ?_
                    rintro e w1 ⟨rfl, hw⟩
                    obtain rfl := hw.symm
                    clear hw
                    go_wp2_with fail
                    with_reducible refine (KD _).mono ?_
                    rintro e w1 ⟨rfl, hw⟩
                    obtain rfl := hw.symm
                    clear hw
                    go_wp2
                    go_roundw
                    case rel => exact ⟨k + 1, by omega, by omega, by go_num, hall2, trivial⟩
                    case measure => simp [intOf]; omega
                  · have hL2 : isL b = false := by simpa using hL1
                    rw [hL2, Bool.false_or] at hA1
                    rw [hL2] at KL
                    rw [hA1] at KD
                    clear hA1 hL1 hL2
                    go_wp2_with fail
                    with_reducible refine (KL _).mono ?_
                    rintro e w1 ⟨rfl, hw⟩
                    obtain rfl := hw.symm
                    clear hw
                    go_wp2_with fail
                    with_reducible refine (KD _).mono ?_
                    rintro e w1 ⟨rfl, hw⟩
                    obtain rfl := hw.symm
                    clear hw
                    go_wp2
                    go_roundw
                    case rel => exact ⟨k + 1, by omega, by omega, by go_num, hall2, trivial⟩
                    case measure => simp [intOf]; omega
                · have hA2 : isA b = false := by simpa using hA1
                  have hLD : isL b = false ∧ isD b = false := by unfold isA at hA2; simpa using hA2
                  rw [hLD.1] at KL
                  rw [hLD.2] at KD
                  have htw : (r.takeWhile isA).length = k - (i + 1) := takeWhile_len hall.out (by have := HLr.out; simp only [List.length_cons] at this; omega) (fun c hc => by rw [hrk] at hc; rw [← Option.some.inj hc]; exact hA2)
                  clear hall hrk hA1 hA2 hLD
                  go_wp2_with fail
                  with_reducible refine (KL _).mono ?_
                  rintro e w1 ⟨rfl, hw⟩
                  obtain rfl := hw.symm
                  clear hw
                  go_wp2_with fail
                  with_reducible refine (KD _).mono ?_
                  rintro e w1 ⟨rfl, hw⟩
                  obtain rfl := hw.symm
                  clear hw
                  clear KL KD
                  have hkk : k = i + (wd (a :: r)).length := by
                    have := HW.out
                    omega
                  obtain ⟨hX, hDr, hY⟩ := wd_extract HL.out hkk
                  have RT := rtoken_any (s.extract i k) (by rw [ByteArray.size_extract]; omega) (by rw [hX]; exact run_wd HB.out)
                  have hV : rdV (s.extract i k) = .tuple #[tokV ((tk (a :: r)).2.1 : Nat) (if (tk (a :: r)).1 = 0 then s.extract i k else ⟨#[]⟩) (tk (a :: r)).2.2.2 0 0, .int .i64 ((tk (a :: r)).1 : Nat)] := by
                    unfold rdV
                    rw [hX, HT.out]
                  rw [hV] at RT
                  have hlen : (tk (a :: r)).2.2.1 = (wd (a :: r)).length := by rw [HT.out]
                  by_cases hte : (tk (a :: r)).1 = 0
                  · rw [if_pos hte, hte] at RT
                    have hQ1 := HQ2.out
                    rw [lx_tok line col H10.out HB2.out hte, pre_pre, hlen, ← hDr] at hQ1
                    have hG : ∀ (w5 w6 : World) (l' : Value) (o : Obj), RAt w.heap.size w w5 u5 ts → (w5.alloc o).grownBy w6 u5.ownBlock →
                        w6.ownsRow (w.heap.size + 1) 95 5 l' (ts.length + 1) (flatT ts ++ [.int .i64 ((tk (a :: r)).2.1 : Nat), .string (s.extract i k), .int .i64 (tk (a :: r)).2.2.2, .int .i64 (line : Nat), .int .i64 (col : Nat)]) →
                        RAt w.heap.size w w6 l' (ts ++ [tkAt (a :: r) line col]) := by
                      intro w5 w6 l' o h1 h2 h3
                      refine h1.grow (x := tkAt (a :: r) line col) h2 ?_
                      rw [← hlen] at hY
                      unfold cells5 tkAt
                      rw [← hY]
                      exact h3
                    have hG2 := Lib.hid hG
                    have hcol : col + (wd (a :: r)).length = col + k - i := by omega
                    rw [hcol] at hQ1
                    have HR := Lib.hid hQ1
                    have hkg : i + 1 ≤ k := by omega
                    clear hG hQ1 hV hX hDr hY htw hlen hte HQ2 HT HB HW hkk hcol
                    generalize tkAt (a :: r) line col = X at *
                    generalize ((tk (a :: r)).2.1 : Nat) = q1 at *
                    generalize (tk (a :: r)).2.2.2 = q2 at *
                    go_wp2_with fail
                    with_reducible refine (RT _).mono ?_
                    rintro e w4 ⟨rfl, b4⟩
                    have hA5 := Lib.hid (hA.out.on b4)
                    clear b4 RT
                    have b6 := new_belowL w4 (.cells #[.int .i64 (q1 : Nat), .string (s.extract i k), .int .i64 q2, .int .i64 (line : Nat), .int .i64 (col : Nat)] 95)
                    have hA6 := Lib.hid (hA5.out.on b6)
                    have hAlt := hA5.out.lt
                    clear b6
                    unfold tokV
                    go_wp2_with (at_builtin; refine wpList_append_own _ rfl _ _ 84 rfl (w.heap.size + 1) 95 i0 (.agg #[.int .i64 0, .string ⟨#[]⟩, .int .i64 0, .int .i64 0, .int .i64 0]) 5 48 Tryz.underlying84 hi hz0 hz1 hz2 rfl (by decide) _ _ _ rfl (hA6.out.own.alloc _) ⟨w4.heap.size + 1, 0, none⟩ 1 1 [.int .i64 (q1 : Nat), .string (s.extract i k), .int .i64 q2, .int .i64 (line : Nat), .int .i64 (col : Nat)] rfl rfl ?gx1 ?gx2 ?gx3 ?gx4 ?gx5 ?_)
                    case gx1 =>
                      have := lit5 (w4.alloc (.cells #[.int .i64 (q1 : Nat), .string (s.extract i k), .int .i64 q2, .int .i64 (line : Nat), .int .i64 (col : Nat)] 95)) (.int .i64 (q1 : Nat)) (.string (s.extract i k)) (.int .i64 q2) (.int .i64 (line : Nat)) (.int .i64 (col : Nat)) 95
                      simpa using this
                    case gx2 => exact one5 _ _ _ _ _
                    case gx3 => unfold maxLen; omega
                    case gx4 => omega
                    case gx5 => simp; omega
                    · intro v' w7 hown' hgrow _
                      have hA7 := Lib.hid (hG2.out _ _ _ _ hA6.out hgrow hown')
                      clear hown' hgrow hA6 hA5 hG2
                      go_wp2
                      go_roundw
                      case rel => exact ⟨k, line, col + k - i, false, ts ++ [X], by omega, by omega, by omega, by simp; omega, rfl, by go_num, rfl, rfl, HR, hA7⟩
                      case measure => simp [intOf]; omega
                  · rw [if_neg hte] at RT
                    have hQ1 := HQ2.out
                    have hp0 := H0.out
                    rw [lx_err line col hp0 H10.out HB2.out hte, pre_bad ts hte] at hQ1
                    have HR := Lib.hid hQ1
                    have hte' : ¬ (((tk (a :: r)).1 : Nat) : Int) = 0 := by omega
                    clear hQ1 hV hX hDr hY htw hlen hte HQ2 HT HB HW hkk hp0
                    generalize (tk (a :: r)).1 = er at *
                    generalize ((tk (a :: r)).2.1 : Nat) = q1 at *
                    generalize (tk (a :: r)).2.2.2 = q2 at *
                    go_wp2_with fail
                    with_reducible refine (RT _).mono ?_
                    rintro e w4 ⟨rfl, b4⟩
                    have b5 := new_belowL w4 (.cells #[.int .i64 (q1 : Nat), .string ⟨#[]⟩, .int .i64 q2, .int .i64 0, .int .i64 0] 95)
                    obtain ⟨own, p0, p1, fp0, fp1, bel, lt⟩ := (hA.out.on b4).on b5
                    have BE := Lib.hid bel
                    clear own bel b4 b5 RT
                    unfold tokV
                    go_wp2
                    refine bodyPost_ret (v := .tuple #[.slice none 0 0, .agg #[.int .i64 (line : Nat), .int .i64 (col : Nat)], .int .i64 (er : Nat)]) (by simp [results, Tryz.results27, go_sem, p0, p1]) rfl ?_
                    rw [← HR.out]
                    refine ⟨_, rfl, World.ownsRow_nil _ _ _ _, ?_⟩
                    have BB := BE.out
                    go_grown
              · obtain rfl : k = s.size := by omega
                have htw : (r.takeWhile isA).length = s.size - (i + 1) := takeWhile_len hall.out (by have := HLr.out; simp only [List.length_cons] at this; omega) (fun c hc => by
                  have := HLr.out
                  simp only [List.length_cons] at this
                  rw [List.getElem?_eq_none (by omega)] at hc
                  cases hc)
                clear hall
                have hkk : s.size = i + (wd (a :: r)).length := by
                  have := HW.out
                  omega
                obtain ⟨hX, hDr, hY⟩ := wd_extract HL.out hkk
                have RT := rtoken_any (s.extract i s.size) (by rw [ByteArray.size_extract]; omega) (by rw [hX]; exact run_wd HB.out)
                have hV : rdV (s.extract i s.size) = .tuple #[tokV ((tk (a :: r)).2.1 : Nat) (if (tk (a :: r)).1 = 0 then s.extract i s.size else ⟨#[]⟩) (tk (a :: r)).2.2.2 0 0, .int .i64 ((tk (a :: r)).1 : Nat)] := by
                  unfold rdV
                  rw [hX, HT.out]
                rw [hV] at RT
                have hlen : (tk (a :: r)).2.2.1 = (wd (a :: r)).length := by rw [HT.out]
                by_cases hte : (tk (a :: r)).1 = 0
                · rw [if_pos hte, hte] at RT
                  have hQ1 := HQ2.out
                  rw [lx_tok line col H10.out HB2.out hte, pre_pre, hlen, ← hDr] at hQ1
                  have hG : ∀ (w5 w6 : World) (l' : Value) (o : Obj), RAt w.heap.size w w5 u5 ts → (w5.alloc o).grownBy w6 u5.ownBlock →
                      w6.ownsRow (w.heap.size + 1) 95 5 l' (ts.length + 1) (flatT ts ++ [.int .i64 ((tk (a :: r)).2.1 : Nat), .string (s.extract i s.size), .int .i64 (tk (a :: r)).2.2.2, .int .i64 (line : Nat), .int .i64 (col : Nat)]) →
                      RAt w.heap.size w w6 l' (ts ++ [tkAt (a :: r) line col]) := by
                    intro w5 w6 l' o h1 h2 h3
                    refine h1.grow (x := tkAt (a :: r) line col) h2 ?_
                    rw [← hlen] at hY
                    unfold cells5 tkAt
                    rw [← hY]
                    exact h3
                  have hG2 := Lib.hid hG
                  have hcol : col + (wd (a :: r)).length = col + s.size - i := by omega
                  rw [hcol] at hQ1
                  have HR := Lib.hid hQ1
                  have hkg : i + 1 ≤ s.size := by omega
                  clear hG hQ1 hV hX hDr hY htw hlen hte HQ2 HT HB HW hkk hcol
                  generalize tkAt (a :: r) line col = X at *
                  generalize ((tk (a :: r)).2.1 : Nat) = q1 at *
                  generalize (tk (a :: r)).2.2.2 = q2 at *
                  go_wp2_with fail
                  with_reducible refine (RT _).mono ?_
                  rintro e w4 ⟨rfl, b4⟩
                  have hA5 := Lib.hid (hA.out.on b4)
                  clear b4 RT
                  have b6 := new_belowL w4 (.cells #[.int .i64 (q1 : Nat), .string (s.extract i s.size), .int .i64 q2, .int .i64 (line : Nat), .int .i64 (col : Nat)] 95)
                  have hA6 := Lib.hid (hA5.out.on b6)
                  have hAlt := hA5.out.lt
                  clear b6
                  unfold tokV
                  go_wp2_with (at_builtin; refine wpList_append_own _ rfl _ _ 84 rfl (w.heap.size + 1) 95 i0 (.agg #[.int .i64 0, .string ⟨#[]⟩, .int .i64 0, .int .i64 0, .int .i64 0]) 5 48 Tryz.underlying84 hi hz0 hz1 hz2 rfl (by decide) _ _ _ rfl (hA6.out.own.alloc _) ⟨w4.heap.size + 1, 0, none⟩ 1 1 [.int .i64 (q1 : Nat), .string (s.extract i s.size), .int .i64 q2, .int .i64 (line : Nat), .int .i64 (col : Nat)] rfl rfl ?gy1 ?gy2 ?gy3 ?gy4 ?gy5 ?_)
                  case gy1 =>
                    have := lit5 (w4.alloc (.cells #[.int .i64 (q1 : Nat), .string (s.extract i s.size), .int .i64 q2, .int .i64 (line : Nat), .int .i64 (col : Nat)] 95)) (.int .i64 (q1 : Nat)) (.string (s.extract i s.size)) (.int .i64 q2) (.int .i64 (line : Nat)) (.int .i64 (col : Nat)) 95
                    simpa using this
                  case gy2 => exact one5 _ _ _ _ _
                  case gy3 => unfold maxLen; omega
                  case gy4 => omega
                  case gy5 => simp; omega
                  · intro v' w7 hown' hgrow _
                    have hA7 := Lib.hid (hG2.out _ _ _ _ hA6.out hgrow hown')
                    clear hown' hgrow hA6 hA5 hG2
                    go_wp2
                    go_roundw
                    case rel => exact ⟨s.size, line, col + s.size - i, false, ts ++ [X], by omega, by omega, by omega, by simp; omega, rfl, by go_num, rfl, rfl, HR, hA7⟩
                    case measure => simp [intOf]; omega
                · rw [if_neg hte] at RT
                  have hQ1 := HQ2.out
                  have hp0 := H0.out
                  rw [lx_err line col hp0 H10.out HB2.out hte, pre_bad ts hte] at hQ1
                  have HR := Lib.hid hQ1
                  have hte' : ¬ (((tk (a :: r)).1 : Nat) : Int) = 0 := by omega
                  clear hQ1 hV hX hDr hY htw hlen hte HQ2 HT HB HW hkk hp0
                  generalize (tk (a :: r)).1 = er at *
                  generalize ((tk (a :: r)).2.1 : Nat) = q1 at *
                  generalize (tk (a :: r)).2.2.2 = q2 at *
                  go_wp2_with fail
                  with_reducible refine (RT _).mono ?_
                  rintro e w4 ⟨rfl, b4⟩
                  have b5 := new_belowL w4 (.cells #[.int .i64 (q1 : Nat), .string ⟨#[]⟩, .int .i64 q2, .int .i64 0, .int .i64 0] 95)
                  obtain ⟨own, p0, p1, fp0, fp1, bel, lt⟩ := (hA.out.on b4).on b5
                  have BE := Lib.hid bel
                  clear own bel b4 b5 RT
                  unfold tokV
                  go_wp2
                  refine bodyPost_ret (v := .tuple #[.slice none 0 0, .agg #[.int .i64 (line : Nat), .int .i64 (col : Nat)], .int .i64 (er : Nat)]) (by simp [results, Tryz.results27, go_sem, p0, p1]) rfl ?_
                  rw [← HR.out]
                  refine ⟨_, rfl, World.ownsRow_nil _ _ _ _, ?_⟩
                  have BB := BE.out
                  go_grown
          · have hL2 : isL a = false := by simpa using hL1
            rw [hL2, Bool.false_or] at hor
            rw [hL2] at RL
            rw [← hor] at RD
            generalize hq : pt (a :: r) = q at PT hpi hple
            clear i10 i32 i9 i13 i35 i45 i58 hnext hlast hplain HQ hQ hl ha hr hlr h0 hdr h10 hB' h45 h58 htk hbg hL1 hL2 hor hq
            go_wp2_with fail
            with_reducible refine (PT _).mono ?_
            rintro e w1 ⟨rfl, hw⟩
            obtain rfl := hw.symm
            clear hw
            go_wp2_with fail
            with_reducible refine (RL _).mono ?_
            rintro e w1 ⟨rfl, hw⟩
            obtain rfl := hw.symm
            clear hw
            go_wp2_with fail
            with_reducible refine (RD _).mono ?_
            rintro e w1 ⟨rfl, hw⟩
            obtain rfl := hw.symm
            clear hw
            clear PT RL RD
            go_wp2
            obtain ⟨wO, hwO⟩ : ∃ x, x = wr := ⟨wr, rfl⟩
            subst hwO
            go_loopw [14] (fun kv wr => ∃ k : Nat, i + 1 ≤ k ∧ k ≤ s.size ∧ kv = .int .i64 (k : Nat) ∧ Hid (∀ j b, j < k - (i + 1) → r[j]? = some b → isA b = true) ∧ wr = wO) (fun kv _ => s.size - (intOf kv).toNat)
            case atStart => exact ⟨i + 1, by omega, by omega, by go_num, fun j b hj => by omega, rfl⟩
            case round =>
              obtain ⟨k, hk1, hk2, rfl, hall, rfl⟩ := hrel
              by_cases hkl : k < s.size
              · obtain ⟨b, hb⟩ : ∃ b, s[k]'hkl = b := ⟨_, rfl⟩
                have hrk : r[k - (i + 1)]? = some b := by
                  have h7 := at_byte hkl
                  rw [hb] at h7
                  rw [HRr.out, List.getElem?_drop, show i + 1 + (k - (i + 1)) = k by omega]
                  exact h7
                have KL := rLetter_any b
                have KD := rDigit_any b
                by_cases hA1 : isA b = true
                · have hall2 : Hid (∀ j b, j < k + 1 - (i + 1) → r[j]? = some b → isA b = true) := by
                    intro j c hj hc
                    by_cases hjk : j = k - (i + 1)
                    · rw [hjk, hrk] at hc
                      rw [← Option.some.inj hc]
                      exact hA1
                    · exact hall.out j c (by omega) hc
                  clear hall hrk
                  unfold isA at hA1
                  by_cases hL1 : isL b = true
                  · rw [hL1] at KL
                    generalize isD b = b9 at *
                    clear hA1 hL1
                    go_wp2_with fail
                    with_reducible refine (KL _).mono ?_
                    rintro e w1 ⟨rfl, hw⟩
                    obtain rfl := hw.symm
                    clear hw
                    go_wp2_with fail
                    with_reducible refine (KD _).mono ?_
                    rintro e w1 ⟨rfl, hw⟩
                    obtain rfl := hw.symm
                    clear hw
                    go_wp2
                    go_roundw
                    case rel => exact ⟨k + 1, by omega, by omega, by go_num, hall2, trivial⟩
                    case measure => simp [intOf]; omega
                  · have hL2 : isL b = false := by simpa using hL1
                    rw [hL2, Bool.false_or] at hA1
                    rw [hL2] at KL
                    rw [hA1] at KD
                    clear hA1 hL1 hL2
                    go_wp2_with fail
                    with_reducible refine (KL _).mono ?_
                    rintro e w1 ⟨rfl, hw⟩
                    obtain rfl := hw.symm
                    clear hw
                    go_wp2_with fail
                    with_reducible refine (KD _).mono ?_
                    rintro e w1 ⟨rfl, hw⟩
                    obtain rfl := hw.symm
                    clear hw
                    go_wp2
                    go_roundw
                    case rel => exact ⟨k + 1, by omega, by omega, by go_num, hall2, trivial⟩
                    case measure => simp [intOf]; omega
                · have hA2 : isA b = false := by simpa using hA1
                  have hLD : isL b = false ∧ isD b = false := by unfold isA at hA2; simpa using hA2
                  rw [hLD.1] at KL
                  rw [hLD.2] at KD
                  have htw : (r.takeWhile isA).length = k - (i + 1) := takeWhile_len hall.out (by have := HLr.out; simp only [List.length_cons] at this; omega) (fun c hc => by rw [hrk] at hc; rw [← Option.some.inj hc]; exact hA2)
                  clear hall hrk hA1 hA2 hLD
                  go_wp2_with fail
                  with_reducible refine (KL _).mono ?_
                  rintro e w1 ⟨rfl, hw⟩
                  obtain rfl := hw.symm
                  clear hw
                  go_wp2_with fail
                  with_reducible refine (KD _).mono ?_
                  rintro e w1 ⟨rfl, hw⟩
                  obtain rfl := hw.symm
                  clear hw
                  clear KL KD
                  have hkk : k = i + (wd (a :: r)).length := by
                    have := HW.out
                    omega
                  obtain ⟨hX, hDr, hY⟩ := wd_extract HL.out hkk
                  have RT := rtoken_any (s.extract i k) (by rw [ByteArray.size_extract]; omega) (by rw [hX]; exact run_wd HB.out)
                  have hV : rdV (s.extract i k) = .tuple #[tokV ((tk (a :: r)).2.1 : Nat) (if (tk (a :: r)).1 = 0 then s.extract i k else ⟨#[]⟩) (tk (a :: r)).2.2.2 0 0, .int .i64 ((tk (a :: r)).1 : Nat)] := by
                    unfold rdV
                    rw [hX, HT.out]
                  rw [hV] at RT
                  have hlen : (tk (a :: r)).2.2.1 = (wd (a :: r)).length := by rw [HT.out]
                  by_cases hte : (tk (a :: r)).1 = 0
                  · rw [if_pos hte, hte] at RT
                    have hQ1 := HQ2.out
                    rw [lx_tok line col H10.out HB2.out hte, pre_pre, hlen, ← hDr] at hQ1
                    have hG : ∀ (w5 w6 : World) (l' : Value) (o : Obj), RAt w.heap.size w w5 u5 ts → (w5.alloc o).grownBy w6 u5.ownBlock →
                        w6.ownsRow (w.heap.size + 1) 95 5 l' (ts.length + 1) (flatT ts ++ [.int .i64 ((tk (a :: r)).2.1 : Nat), .string (s.extract i k), .int .i64 (tk (a :: r)).2.2.2, .int .i64 (line : Nat), .int .i64 (col : Nat)]) →
                        RAt w.heap.size w w6 l' (ts ++ [tkAt (a :: r) line col]) := by
                      intro w5 w6 l' o h1 h2 h3
                      refine h1.grow (x := tkAt (a :: r) line col) h2 ?_
                      rw [← hlen] at hY
                      unfold cells5 tkAt
                      rw [← hY]
                      exact h3
                    have hG2 := Lib.hid hG
                    have hcol : col + (wd (a :: r)).length = col + k - i := by omega
                    rw [hcol] at hQ1
                    have HR := Lib.hid hQ1
                    have hkg : i + 1 ≤ k := by omega
                    clear hG hQ1 hV hX hDr hY htw hlen hte HQ2 HT HB HW hkk hcol
                    generalize tkAt (a :: r) line col = X at *
                    generalize ((tk (a :: r)).2.1 : Nat) = q1 at *
                    generalize (tk (a :: r)).2.2.2 = q2 at *
                    go_wp2_with fail
                    with_reducible refine (RT _).mono ?_
                    rintro e w4 ⟨rfl, b4⟩
                    have hA5 := Lib.hid (hA.out.on b4)
                    clear b4 RT
                    have b6 := new_belowL w4 (.cells #[.int .i64 (q1 : Nat), .string (s.extract i k), .int .i64 q2, .int .i64 (line : Nat), .int .i64 (col : Nat)] 95)
                    have hA6 := Lib.hid (hA5.out.on b6)
                    have hAlt := hA5.out.lt
                    clear b6
                    unfold tokV
                    go_wp2_with (at_builtin; refine wpList_append_own _ rfl _ _ 84 rfl (w.heap.size + 1) 95 i0 (.agg #[.int .i64 0, .string ⟨#[]⟩, .int .i64 0, .int .i64 0, .int .i64 0]) 5 48 Tryz.underlying84 hi hz0 hz1 hz2 rfl (by decide) _ _ _ rfl (hA6.out.own.alloc _) ⟨w4.heap.size + 1, 0, none⟩ 1 1 [.int .i64 (q1 : Nat), .string (s.extract i k), .int .i64 q2, .int .i64 (line : Nat), .int .i64 (col : Nat)] rfl rfl ?hx1 ?hx2 ?hx3 ?hx4 ?hx5 ?_)
                    case hx1 =>
                      have := lit5 (w4.alloc (.cells #[.int .i64 (q1 : Nat), .string (s.extract i k), .int .i64 q2, .int .i64 (line : Nat), .int .i64 (col : Nat)] 95)) (.int .i64 (q1 : Nat)) (.string (s.extract i k)) (.int .i64 q2) (.int .i64 (line : Nat)) (.int .i64 (col : Nat)) 95
                      simpa using this
                    case hx2 => exact one5 _ _ _ _ _
                    case hx3 => unfold maxLen; omega
                    case hx4 => omega
                    case hx5 => simp; omega
                    · intro v' w7 hown' hgrow _
                      have hA7 := Lib.hid (hG2.out _ _ _ _ hA6.out hgrow hown')
                      clear hown' hgrow hA6 hA5 hG2
                      go_wp2
                      go_roundw
                      case rel => exact ⟨k, line, col + k - i, false, ts ++ [X], by omega, by omega, by omega, by simp; omega, rfl, by go_num, rfl, rfl, HR, hA7⟩
                      case measure => simp [intOf]; omega
                  · rw [if_neg hte] at RT
                    have hQ1 := HQ2.out
                    have hp0 := H0.out
                    rw [lx_err line col hp0 H10.out HB2.out hte, pre_bad ts hte] at hQ1
                    have HR := Lib.hid hQ1
                    have hte' : ¬ (((tk (a :: r)).1 : Nat) : Int) = 0 := by omega
                    clear hQ1 hV hX hDr hY htw hlen hte HQ2 HT HB HW hkk hp0
                    generalize (tk (a :: r)).1 = er at *
                    generalize ((tk (a :: r)).2.1 : Nat) = q1 at *
                    generalize (tk (a :: r)).2.2.2 = q2 at *
                    go_wp2_with fail
                    with_reducible refine (RT _).mono ?_
                    rintro e w4 ⟨rfl, b4⟩
                    have b5 := new_belowL w4 (.cells #[.int .i64 (q1 : Nat), .string ⟨#[]⟩, .int .i64 q2, .int .i64 0, .int .i64 0] 95)
                    obtain ⟨own, p0, p1, fp0, fp1, bel, lt⟩ := (hA.out.on b4).on b5
                    have BE := Lib.hid bel
                    clear own bel b4 b5 RT
                    unfold tokV
                    go_wp2
                    refine bodyPost_ret (v := .tuple #[.slice none 0 0, .agg #[.int .i64 (line : Nat), .int .i64 (col : Nat)], .int .i64 (er : Nat)]) (by simp [results, Tryz.results27, go_sem, p0, p1]) rfl ?_
                    rw [← HR.out]
                    refine ⟨_, rfl, World.ownsRow_nil _ _ _ _, ?_⟩
                    have BB := BE.out
                    go_grown
              · obtain rfl : k = s.size := by omega
                have htw : (r.takeWhile isA).length = s.size - (i + 1) := takeWhile_len hall.out (by have := HLr.out; simp only [List.length_cons] at this; omega) (fun c hc => by
                  have := HLr.out
                  simp only [List.length_cons] at this
                  rw [List.getElem?_eq_none (by omega)] at hc
                  cases hc)
                clear hall
                have hkk : s.size = i + (wd (a :: r)).length := by
                  have := HW.out
                  omega
                obtain ⟨hX, hDr, hY⟩ := wd_extract HL.out hkk
                have RT := rtoken_any (s.extract i s.size) (by rw [ByteArray.size_extract]; omega) (by rw [hX]; exact run_wd HB.out)
                have hV : rdV (s.extract i s.size) = .tuple #[tokV ((tk (a :: r)).2.1 : Nat) (if (tk (a :: r)).1 = 0 then s.extract i s.size else ⟨#[]⟩) (tk (a :: r)).2.2.2 0 0, .int .i64 ((tk (a :: r)).1 : Nat)] := by
                  unfold rdV
                  rw [hX, HT.out]
                rw [hV] at RT
                have hlen : (tk (a :: r)).2.2.1 = (wd (a :: r)).length := by rw [HT.out]
                by_cases hte : (tk (a :: r)).1 = 0
                · rw [if_pos hte, hte] at RT
                  have hQ1 := HQ2.out
                  rw [lx_tok line col H10.out HB2.out hte, pre_pre, hlen, ← hDr] at hQ1
                  have hG : ∀ (w5 w6 : World) (l' : Value) (o : Obj), RAt w.heap.size w w5 u5 ts → (w5.alloc o).grownBy w6 u5.ownBlock →
                      w6.ownsRow (w.heap.size + 1) 95 5 l' (ts.length + 1) (flatT ts ++ [.int .i64 ((tk (a :: r)).2.1 : Nat), .string (s.extract i s.size), .int .i64 (tk (a :: r)).2.2.2, .int .i64 (line : Nat), .int .i64 (col : Nat)]) →
                      RAt w.heap.size w w6 l' (ts ++ [tkAt (a :: r) line col]) := by
                    intro w5 w6 l' o h1 h2 h3
                    refine h1.grow (x := tkAt (a :: r) line col) h2 ?_
                    rw [← hlen] at hY
                    unfold cells5 tkAt
                    rw [← hY]
                    exact h3
                  have hG2 := Lib.hid hG
                  have hcol : col + (wd (a :: r)).length = col + s.size - i := by omega
                  rw [hcol] at hQ1
                  have HR := Lib.hid hQ1
                  have hkg : i + 1 ≤ s.size := by omega
                  clear hG hQ1 hV hX hDr hY htw hlen hte HQ2 HT HB HW hkk hcol
                  generalize tkAt (a :: r) line col = X at *
                  generalize ((tk (a :: r)).2.1 : Nat) = q1 at *
                  generalize (tk (a :: r)).2.2.2 = q2 at *
                  go_wp2_with fail
                  with_reducible refine (RT _).mono ?_
                  rintro e w4 ⟨rfl, b4⟩
                  have hA5 := Lib.hid (hA.out.on b4)
                  clear b4 RT
                  have b6 := new_belowL w4 (.cells #[.int .i64 (q1 : Nat), .string (s.extract i s.size), .int .i64 q2, .int .i64 (line : Nat), .int .i64 (col : Nat)] 95)
                  have hA6 := Lib.hid (hA5.out.on b6)
                  have hAlt := hA5.out.lt
                  clear b6
                  unfold tokV
                  go_wp2_with (at_builtin; refine wpList_append_own _ rfl _ _ 84 rfl (w.heap.size + 1) 95 i0 (.agg #[.int .i64 0, .string ⟨#[]⟩, .int .i64 0, .int .i64 0, .int .i64 0]) 5 48 Tryz.underlying84 hi hz0 hz1 hz2 rfl (by decide) _ _ _ rfl (hA6.out.own.alloc _) ⟨w4.heap.size + 1, 0, none⟩ 1 1 [.int .i64 (q1 : Nat), .string (s.extract i s.size), .int .i64 q2, .int .i64 (line : Nat), .int .i64 (col : Nat)] rfl rfl ?hy1 ?hy2 ?hy3 ?hy4 ?hy5 ?_)
                  case hy1 =>
                    have := lit5 (w4.alloc (.cells #[.int .i64 (q1 : Nat), .string (s.extract i s.size), .int .i64 q2, .int .i64 (line : Nat), .int .i64 (col : Nat)] 95)) (.int .i64 (q1 : Nat)) (.string (s.extract i s.size)) (.int .i64 q2) (.int .i64 (line : Nat)) (.int .i64 (col : Nat)) 95
                    simpa using this
                  case hy2 => exact one5 _ _ _ _ _
                  case hy3 => unfold maxLen; omega
                  case hy4 => omega
                  case hy5 => simp; omega
                  · intro v' w7 hown' hgrow _
                    have hA7 := Lib.hid (hG2.out _ _ _ _ hA6.out hgrow hown')
                    clear hown' hgrow hA6 hA5 hG2
                    go_wp2
                    go_roundw
                    case rel => exact ⟨s.size, line, col + s.size - i, false, ts ++ [X], by omega, by omega, by omega, by simp; omega, rfl, by go_num, rfl, rfl, HR, hA7⟩
                    case measure => simp [intOf]; omega
                · rw [if_neg hte] at RT
                  have hQ1 := HQ2.out
                  have hp0 := H0.out
                  rw [lx_err line col hp0 H10.out HB2.out hte, pre_bad ts hte] at hQ1
                  have HR := Lib.hid hQ1
                  have hte' : ¬ (((tk (a :: r)).1 : Nat) : Int) = 0 := by omega
                  clear hQ1 hV hX hDr hY htw hlen hte HQ2 HT HB HW hkk hp0
                  generalize (tk (a :: r)).1 = er at *
                  generalize ((tk (a :: r)).2.1 : Nat) = q1 at *
                  generalize (tk (a :: r)).2.2.2 = q2 at *
                  go_wp2_with fail
                  with_reducible refine (RT _).mono ?_
                  rintro e w4 ⟨rfl, b4⟩
                  have b5 := new_belowL w4 (.cells #[.int .i64 (q1 : Nat), .string ⟨#[]⟩, .int .i64 q2, .int .i64 0, .int .i64 0] 95)
                  obtain ⟨own, p0, p1, fp0, fp1, bel, lt⟩ := (hA.out.on b4).on b5
                  have BE := Lib.hid bel
                  clear own bel b4 b5 RT
                  unfold tokV
                  go_wp2
                  refine bodyPost_ret (v := .tuple #[.slice none 0 0, .agg #[.int .i64 (line : Nat), .int .i64 (col : Nat)], .int .i64 (er : Nat)]) (by simp [results, Tryz.results27, go_sem, p0, p1]) rfl ?_
                  rw [← HR.out]
                  refine ⟨_, rfl, World.ownsRow_nil _ _ _ _, ?_⟩
                  have BB := BE.out
                  go_grown
      · have htk := tk_none h58 hbg
        have hbg' : begins a r = false := by simpa using hbg
        rw [lx_err line col h0 h10 hB' (by rw [htk]; simp), htk, pre_bad ts (by simp)] at HQ
        have HR := Lib.hid HQ
        obtain ⟨own, p0, p1, fp0, fp1, bel, lt⟩ := hA.out
        have BE := Lib.hid bel
        by_cases h45 : a = 45
        · have k45 : (a.toNat : Int) = 45 := i45.1 h45
          have e45 : isL a = false ∧ isD a = false := by rw [h45]; exact ⟨rfl, rfl⟩
          rw [e45.1] at RL
          rw [e45.2] at RD
          by_cases hi1 : i + 1 < s.size
          · obtain ⟨b, ⟨_, hb⟩, hbd⟩ := hnext ⟨h45, hi1⟩
            have RD2 := rDigit_any b
            rw [← hbd, hbg'] at RD2
            generalize pt (a :: r) = q at *
            clear i10 i32 i9 i13 i35 i45 i58 hnext hlast hplain HQ hQ own bel hl ha hr hlr h0 hdr h10 h45 h58 htk hbg hbg' hbd e45 hB'
            rw [k45] at RL RD
            go_wp2_with fail
            with_reducible refine (PT _).mono ?_
            rintro e w1 ⟨rfl, hw⟩
            obtain rfl := hw.symm
            clear hw
            go_wp2_with fail
            with_reducible refine (RL _).mono ?_
            rintro e w1 ⟨rfl, hw⟩
            obtain rfl := hw.symm
            clear hw
            go_wp2_with fail
            with_reducible refine (RD _).mono ?_
            rintro e w1 ⟨rfl, hw⟩
            obtain rfl := hw.symm
            clear hw
            go_wp2_with fail
            with_reducible refine (RD2 _).mono ?_
            rintro e w1 ⟨rfl, hw⟩
            obtain rfl := hw.symm
            clear hw
            go_wp2
            refine bodyPost_ret (v := .tuple #[.slice none 0 0, .agg #[.int .i64 (line : Nat), .int .i64 (col : Nat)], .int .i64 20]) (by simp [results, Tryz.results27, go_sem, p0, p1]) rfl ?_
            rw [← HR.out]
            refine ⟨_, rfl, World.ownsRow_nil _ _ _ _, ?_⟩
            have BB := BE.out
            go_grown
          · generalize pt (a :: r) = q at *
            clear i10 i32 i9 i13 i35 i45 i58 hnext hlast hplain HQ hQ own bel hl ha hr hlr h0 hdr h10 h45 h58 htk hbg hbg' e45 hB'
            rw [k45] at RL RD
            go_wp2_with fail
            with_reducible refine (PT _).mono ?_
            rintro e w1 ⟨rfl, hw⟩
            obtain rfl := hw.symm
            clear hw
            go_wp2_with fail
            with_reducible refine (RL _).mono ?_
            rintro e w1 ⟨rfl, hw⟩
            obtain rfl := hw.symm
            clear hw
            go_wp2_with fail
            with_reducible refine (RD _).mono ?_
            rintro e w1 ⟨rfl, hw⟩
            obtain rfl := hw.symm
            clear hw
            go_wp2
            refine bodyPost_ret (v := .tuple #[.slice none 0 0, .agg #[.int .i64 (line : Nat), .int .i64 (col : Nat)], .int .i64 20]) (by simp [results, Tryz.results27, go_sem, p0, p1]) rfl ?_
            rw [← HR.out]
            refine ⟨_, rfl, World.ownsRow_nil _ _ _ _, ?_⟩
            have BB := BE.out
            go_grown
        · have k45 : ¬ (a.toNat : Int) = 45 := fun h => h45 (i45.2 h)
          have hor := hplain h45
          have q45 : ((a.toNat : Int) == 45) = false := beq_eq_false_iff_ne.2 k45
          have q10 : ((a.toNat : Int) == 10) = false := beq_eq_false_iff_ne.2 k10
          have q58 : ((a.toNat : Int) == 58) = false := beq_eq_false_iff_ne.2 k58
          clear k45 k10 k58 k32 k9 k13 k35
          rw [hbg'] at hor
          have hLD : isL a = false ∧ isD a = false := by simpa using hor.symm
          rw [hLD.1] at RL
          rw [hLD.2] at RD
          generalize pt (a :: r) = q at *
          clear i10 i32 i9 i13 i35 i45 i58 hnext hlast hplain HQ hQ own bel hl ha hr hlr h0 hdr h10 h45 h58 htk hbg hbg' hor hLD hB'
          go_wp2_with fail
          with_reducible refine (PT _).mono ?_
          rintro e w1 ⟨rfl, hw⟩
          obtain rfl := hw.symm
          clear hw
          go_wp2_with fail
          with_reducible refine (RL _).mono ?_
          rintro e w1 ⟨rfl, hw⟩
          obtain rfl := hw.symm
          clear hw
          go_wp2_with fail
          with_reducible refine (RD _).mono ?_
          rintro e w1 ⟨rfl, hw⟩
          obtain rfl := hw.symm
          clear hw
          go_wp2
          refine bodyPost_ret (v := .tuple #[.slice none 0 0, .agg #[.int .i64 (line : Nat), .int .i64 (col : Nat)], .int .i64 20]) (by simp [results, Tryz.results27, go_sem, p0, p1]) rfl ?_
          rw [← HR.out]
          refine ⟨_, rfl, World.ownsRow_nil _ _ _ _, ?_⟩
          have BB := BE.out
          go_grown
    · obtain ⟨own, p0, p1, fp0, fp1, bel, lt⟩ := hA.out
      obtain ⟨i0, hi, hz0, hz1, hz2⟩ := info_parts infoR
      have htl : ts.length ≤ 1048576 := by omega
      go_wp2_with (at_builtin; refine wpList_append_own _ rfl _ _ 84 rfl (w.heap.size + 1) 95 i0 (.agg #[.int .i64 0, .string ⟨#[]⟩, .int .i64 0, .int .i64 0, .int .i64 0]) 5 48 Tryz.underlying84 hi hz0 hz1 hz2 rfl (by decide) _ _ _ rfl (own.alloc _) ⟨wr.heap.size, 0, none⟩ 1 1 [.int .i64 3, .string ⟨#[]⟩, .int .i64 0, .int .i64 (line : Nat), .int .i64 (col : Nat)] rfl rfl ?e1 ?e2 ?e3 ?e4 ?e5 ?_)
      case e1 => exact lit5 _ _ _ _ _ _ _
      case e2 => exact one5 _ _ _ _ _
      case e3 => unfold maxLen; omega
      case e4 => omega
      case e5 => simp; omega
      · intro v' w3 hown' hgrow _
        have hE : s.data.toList.drop i = [] := List.drop_eq_nil_of_le (by omega)
        have hQ2 := hQ.out
        rw [hE, lx_nil] at hQ2
        have hQ3 := Lib.hid hQ2
        have hA3 := Lib.hid (hA.out.grow (x := ⟨3, [], 0, line, col⟩) hgrow hown')
        clear hQ2 hQ hA hE hown' hgrow own p0 p1 fp0 fp1 bel lt
        obtain ⟨own, p0, p1, fp0, fp1, bel, lt⟩ := hA3.out
        have OW := Lib.hid own
        have BE := Lib.hid bel
        clear own bel
        go_wp2
        refine bodyPost_ret (v := .tuple #[v', .agg #[.int .i64 0, .int .i64 0], .int .i64 0]) (by simp [results, Tryz.results27, go_sem, p0, p1]) rfl ?_
        rw [← hQ3.out]
        refine ⟨_, rfl, ?_, ?_⟩
        · refine World.ownsRow.mono (own_frame OW.out ?_) (by omega)
          intro g hg _
          exact (Below.heap_setCell _ ⟨w.heap.size, 1, none⟩ _ g (by show g ≠ w.heap.size; omega)).trans (Below.heap_setCell _ ⟨w.heap.size, 0, none⟩ _ g (by show g ≠ w.heap.size; omega))
        · have BB := BE.out
          go_grown
theorem rlex_any (s : ByteArray) (w : World) : Calls Tryz.prog 27 #[.string s] w (IsRs w (lexP s.data.toList) 95) := by
  rcases Nat.lt_or_ge 1048576 s.size with h | h
  · exact rlex_long s h w
  · exact rlex_short s h w
end Go.Proofs.YtbadingdklenhaaGreatDoor
