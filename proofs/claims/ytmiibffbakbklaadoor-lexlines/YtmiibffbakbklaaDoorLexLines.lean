/-
  LexLines: of every two texts and a remark's text (3000 bytes of each text, 60 of the remark's, what is broken in it put right), with a line between the two that has the remark, the tokens are those of both, the second one's places so many lines farther; where the second one fails, it fails there too, so many lines farther; where the first one fails, nothing is asked. For all three texts, wherever they lie; under the row's own condition on the listed variables of Go's library.
-/
import Derived.Test.YtmiibffbakbklaaDoorLexFrame
import Derived.Test.YtmiibffbakbklaaDoorLexLinesMath
import Derived.Shelf.Vars
namespace Go.Proofs.YtmiibffbakbklaaDoor.lexLines
set_option maxRecDepth 100000
open Go.RowKit Go.Proofs.YtmiibffbakbklaaDoor

theorem replace_any (s : ByteArray) (hs : s.size ≤ 1000) (m : Int) (w : World) (hm : w.cell? ⟨0, 0, none⟩ = some (.int .i64 m)) :
    Calls Tryd.prog 13 #[.string s, .string ⟨#[10]⟩, .string ⟨#[32]⟩] w fun e w' => (∃ R : ByteArray, e = .returned (.string R) ∧ R.size = s.size ∧ ∀ b ∈ R.data.toList, b ≠ 10) ∧ Below w.heap.size w w' := by
  have h := Tryd.strings_ReplaceAll s ⟨#[10]⟩ ⟨#[32]⟩ m w (by omega) hm (by decide) (by
    have h1 := Lib.countB_le ⟨#[10]⟩ (by decide) s.size s (Nat.le_refl _)
    have h2 : (⟨#[32]⟩ : ByteArray).size = 1 := rfl
    rw [h2]
    omega)
  refine h.mono ?_
  rintro e w' ⟨rfl, hb⟩
  have hr := rep_all s.data.toList
  refine ⟨⟨_, rfl, ?_, ?_⟩, hb⟩
  · rw [ba_size]
    exact hr.1.trans (size_list s)
  · rw [ba_list]
    exact hr.2

/-- A place in a variable of its own. -/
structure PBox (g : Nat) (a b : Int) (w : World) : Prop where
  mk ::
  c0 : w.cell? ⟨g, 0, none⟩ = some (.int .i64 a)
  c1 : w.cell? ⟨g, 1, none⟩ = some (.int .i64 b)
  size : g < w.heap.size
theorem PBox.next {g : Nat} {a b : Int} {w w' : World} (h : PBox g a b w) (hb : Below w.heap.size w w') : PBox g a b w' :=
  ⟨(hb.cell (by exact h.size)).trans h.c0, (hb.cell (by exact h.size)).trans h.c1, Nat.lt_of_lt_of_le h.size hb.size⟩
theorem pbox_new (w : World) (a b : Int) (t : TypeId) : PBox w.heap.size a b (w.alloc (.cells #[.int .i64 a, .int .i64 b] t)) := ⟨by simp [go_sem], by simp [go_sem], by simp⟩
theorem on2 {a b c : World} (h1 : Below a.heap.size a b) (h2 : Below b.heap.size b c) : Below a.heap.size a c := h1.trans (h2.mono h1.size)

set_option maxHeartbeats 8000000 in
theorem walk (s t o : ByteArray) (hs : s.size ≤ 281474976710656) (ht : t.size ≤ 281474976710656) (ho : o.size ≤ 281474976710656) (w : World) (hL : LibOk w) (hU : Lib.Utf8Tabs (Tryd.lays197_ren.g 3) (Tryd.lays197_ren.g 4) w) (m : Int) (hm : w.cell? ⟨0, 0, none⟩ = some (.int .i64 m)) :
    Calls Tryd.prog 5 #[.string s, .string t, .string o] w fun e w' => e = .returned (.bool true) ∧ Below w.heap.size w w' := by
  obtain ⟨L1, hL1, hL1a, hL1b⟩ : ∃ L : Nat, (min (s.size : Int) 3000).toNat = L ∧ L ≤ s.size ∧ L ≤ 3000 := ⟨_, rfl, by omega, by omega⟩
  obtain ⟨L2, hL2, hL2a, hL2b⟩ : ∃ L : Nat, (min (t.size : Int) 3000).toNat = L ∧ L ≤ t.size ∧ L ≤ 3000 := ⟨_, rfl, by omega, by omega⟩
  obtain ⟨L3, hL3, hL3a, hL3b⟩ : ∃ L : Nat, (min (o.size : Int) 60).toNat = L ∧ L ≤ o.size ∧ L ≤ 60 := ⟨_, rfl, by omega, by omega⟩
  have m1 : (0 : Int) ≤ min (s.size : Int) 3000 := by omega
  have m2 : min (s.size : Int) 3000 ≤ (s.size : Int) := by omega
  have m3 : (0 : Int) ≤ min (t.size : Int) 3000 := by omega
  have m4 : min (t.size : Int) 3000 ≤ (t.size : Int) := by omega
  go_enter Tryd.func5, Tryd.ntmps5
  go_wp2
  go_region_held3 (fun _ => True) (fail) (exact trivial)
  all_goals
    have B0 : Below w.heap.size w w.drew := ⟨rfl, rfl, rfl, Nat.le_refl _, fun _ _ => rfl⟩
    have L0 : LibOk w.drew := hL
    have U0 : Lib.Utf8Tabs (Tryd.lays197_ren.g 3) (Tryd.lays197_ren.g 4) w.drew := hU
    have M0 : w.drew.cell? ⟨0, 0, none⟩ = some (.int .i64 m) := hm
    have n1 : (0 : Int) ≤ min (o.size : Int) 60 := by omega
    have n2 : min (o.size : Int) 60 ≤ (o.size : Int) := by omega
    have sz1 : (s.extract 0 L1).size = L1 := by rw [ByteArray.size_extract]; omega
    have sz2 : (t.extract 0 L2).size = L2 := by rw [ByteArray.size_extract]; omega
    have sz3 : (o.extract 0 L3).size = L3 := by rw [ByteArray.size_extract]; omega
    have RP := replace_any (o.extract 0 L3) (by omega) m w.drew M0
    clear hm m1 m2 m3 m4
    go_wp2_with fail
    with_reducible refine RP.mono ?_
    rintro e w1 ⟨⟨o1, rfl, ho1, ho2⟩, b1⟩
    have B1 := B0.trans (b1.mono (by have := B0.size; exact this))
    have L1' := L0.below b1
    have TV := toValid_any o1 (by omega) ho2 w1 (tabs_on U0 b1)
    clear RP B0 L0 b1 U0 ho2
    go_wp2_with fail
    with_reducible refine TV.mono ?_
    rintro e w2 ⟨⟨nt, rfl, hv, hnz⟩, b2⟩
    have B2 := B1.trans (b2.mono (by have := B1.size; exact this))
    have L2' := L1'.below b2
    clear TV B1 L1' b2
    generalize s.extract 0 L1 = S at *
    generalize t.extract 0 L2 = T at *
    have hJ : (S ++ (⟨#[32, 35]⟩ : ByteArray) ++ nt ++ (⟨#[10]⟩ : ByteArray) ++ T).data.toList = S.data.toList ++ [32, 35] ++ nt.data.toList ++ [10] ++ T.data.toList := by
      simp only [ByteArray.data_append, Array.toList_append]
    have z1 : (S ++ (⟨#[32, 35]⟩ : ByteArray)).size = S.size + 2 := by rw [ByteArray.size_append]; rfl
    have z2 : (S ++ (⟨#[32, 35]⟩ : ByteArray) ++ nt).size = S.size + 2 + nt.size := by rw [ByteArray.size_append, z1]
    have z3 : (S ++ (⟨#[32, 35]⟩ : ByteArray) ++ nt ++ (⟨#[10]⟩ : ByteArray)).size = S.size + 2 + nt.size + 1 := by rw [ByteArray.size_append, z2]; rfl
    have LS := fun W hW => lex_any S W hW
    have LT := fun W hW => lex_any T W hW
    have LJ := fun W hW => lex_any (S ++ (⟨#[32, 35]⟩ : ByteArray) ++ nt ++ (⟨#[10]⟩ : ByteArray) ++ T) W hW
    have CN := Tryd.strings_Count_one S 10
    have CNe : Lib.countByte S.data.toList 10 = nl S.data.toList := rfl
    rw [CNe] at CN
    have hnl : nl S.data.toList ≤ 3000 := by
      have h1 : nl S.data.toList ≤ S.data.toList.length := List.count_le_length
      rw [size_list] at h1
      omega
    have WK := fun W hW => wakes_any W hW
    rw [hJ] at LJ
    have hTl : ∀ x ∈ (lexP T.data.toList).toks, x.line ≤ 3001 := by
      intro x hx
      have e1 : lexP T.data.toList = lx T.data.toList 1 1 false := by unfold lexP; exact if_neg (by rw [size_list]; omega)
      rw [e1] at hx
      have h2 := (lx_lines_le _ _ (Nat.le_refl _) 1 1 false).1 x hx
      rw [size_list] at h2
      omega
    have hTl2 : (lexP T.data.toList).line ≤ 3001 := by
      have e1 : lexP T.data.toList = lx T.data.toList 1 1 false := by unfold lexP; exact if_neg (by rw [size_list]; omega)
      rw [e1]
      have h2 := (lx_lines_le T.data.toList.length T.data.toList (Nat.le_refl _) 1 1 false).2
      rw [size_list] at h2
      omega
    have hMl := (lexP_sum T.data.toList).2
    have hLl := (lexP_sum S.data.toList).2
    have hNl := (lexP_sum (S.data.toList ++ [32, 35] ++ nt.data.toList ++ [10] ++ T.data.toList)).2
    have hTwo := fun h => lines_two (s := S.data.toList) (note := nt.data.toList) (t := T.data.toList) (by rw [size_list]; omega) (by rw [size_list]; omega) (by rw [size_list]; omega) hv h
    have hLne : (lexP S.data.toList).err = 0 → 0 < (lexP S.data.toList).toks.length := by
      intro h
      have e1 := (lexP_ok h).1
      rw [e1] at h ⊢
      obtain ⟨ts, e, h1, _⟩ := lx_good _ _ (Nat.le_refl _) 1 1 false h
      rw [h1]
      simp
    generalize lexP (S.data.toList ++ [32, 35] ++ nt.data.toList ++ [10] ++ T.data.toList) = R3 at *
    generalize lexP T.data.toList = R2 at *
    generalize lexP S.data.toList = R1 at *
    generalize nl S.data.toList = d at *
    obtain ⟨L, pl1, pc1, er1⟩ := R1
    obtain ⟨M, pl2, pc2, er2⟩ := R2
    obtain ⟨N, pl3, pc3, er3⟩ := R3
    simp only at *
    have HTWO := Lib.hid hTwo
    have HTL := Lib.hid hTl
    clear hTwo hTl hJ hv CNe
    go_wp2_with fail
    with_reducible refine (LS _ L2').mono ?_
    rintro e w3 ⟨v1, rfl, own1, b3⟩
    have T1 := toks_of_own own1
    have c3 := new_below w3 (.cells #[.int .i64 (pl1 : Nat), .int .i64 (pc1 : Nat)] 24)
    have T1a := T1.next c3
    have L3' := (L2'.below b3).below c3
    have B3 := on2 (on2 B2 b3) c3
    clear own1 T1 c3 L2' B2 b3 LS
    go_wp2_with fail
    with_reducible refine (LT _ L3').mono ?_
    rintro e w4 ⟨v2, rfl, own2, b4⟩
    have T2 := toks_of_own own2
    have c4 := new_below w4 (.cells #[.int .i64 (pl2 : Nat), .int .i64 (pc2 : Nat)] 24)
    have P2 := pbox_new w4 (pl2 : Nat) (pc2 : Nat) 24
    have T1b := (T1a.next b4).next c4
    have T2b := T2.next c4
    have L4' := (L3'.below b4).below c4
    have B4 := on2 (on2 B3 b4) c4
    clear own2 T2 T1a c4 L3' B3 b4 LT
    go_wp2_with fail
    with_reducible refine (LJ _ L4').mono ?_
    rintro e w5 ⟨v3, rfl, own3, b5⟩
    have T3 := toks_of_own own3
    have c5 := new_below w5 (.cells #[.int .i64 (pl3 : Nat), .int .i64 (pc3 : Nat)] 24)
    have P3 := pbox_new w5 (pl3 : Nat) (pc3 : Nat) 24
    have P2b := (P2.next b5).next c5
    have T1c := (T1b.next b5).next c5
    have T2c := (T2b.next b5).next c5
    have T3c := T3.next c5
    have L5' := (L4'.below b5).below c5
    have B5 := on2 (on2 B4 b5) c5
    clear own3 T3 T1b T2b c5 L4' B4 b5 LJ P2
    go_wp2_with fail
    with_reducible refine (WK _ L5').mono ?_
    rintro e w6 ⟨rfl, b6⟩
    have P2d := P2b.next b6
    have P3d := P3.next b6
    have T1d := T1c.next b6
    have T2d := T2c.next b6
    have T3d := T3c.next b6
    have L6' := L5'.below b6
    have B6 := on2 B5 b6
    clear T1c T2c T3c P2b P3 L5' B5 b6
    by_cases he1 : er1 = 0
    · subst he1
      have hLn := hLne rfl
      have hTwo := HTWO.out rfl
      clear HTWO hLne L6' WK
      go_wp2_with fail
      with_reducible refine (CN _).mono ?_
      rintro e w7 ⟨rfl, hw⟩
      obtain rfl := hw.symm
      clear hw CN
      by_cases he2 : er2 = 0
      · subst he2
        obtain ⟨rfl, hN1, hN2⟩ := hTwo.2 rfl
        have HN2 := Lib.hid hN2
        clear hTwo hN2 P2d P3d
        obtain ⟨A1, k1, rfl, hk1, hk1', hg1⟩ := T1d
        obtain ⟨A2, k2, rfl, hk2, hk2', hg2⟩ := T2d
        obtain ⟨A3, k3, rfl, hk3, hk3', hg3⟩ := T3d
        unfold maxLen at hk1' hk2' hk3'
        have HG1 := Lib.hid hg1
        have HG2 := Lib.hid hg2
        have HG3 := Lib.hid hg3
        clear hg1 hg2 hg3
        go_wp2
        go_loopw [102] (fun iv wr => ∃ k : Nat, k ≤ N.length ∧ iv = .int .i64 (k : Nat) ∧ Hid (Below w6.heap.size w6 wr)) (fun iv _ => N.length - (intOf iv).toNat)
        case atStart => exact ⟨0, by omega, rfl, Below.refl _ _⟩
        case round =>
          obtain ⟨k, hk, rfl, hB⟩ := hrel
          by_cases hlt : k < N.length
          · obtain ⟨x, hx⟩ : ∃ x, N[k]? = some x := ⟨_, List.getElem?_eq_getElem hlt⟩
            obtain ⟨g3, rfl, G3⟩ := HG3.out (by omega)
            obtain ⟨e1, e2⟩ := HN2.out k x hx
            have G3' := G3.next hB.out
            obtain ⟨c0, c1, c2, c3, c4⟩ := G3'.get hx
            have hg3 := G3'.1
            by_cases hkl : k + 1 < L.length
            · have hx1 := e1 hkl
              obtain ⟨g1, rfl, G1⟩ := HG1.out (by omega)
              have hbx := new_below wr (.cells #[.int .i64 (x.kind : Nat), .string ⟨x.text.toArray⟩, .int .i64 x.n, .int .i64 (x.line : Nat), .int .i64 (x.col : Nat)] 35)
              have hby := new_below (wr.alloc (.cells #[.int .i64 (x.kind : Nat), .string ⟨x.text.toArray⟩, .int .i64 x.n, .int .i64 (x.line : Nat), .int .i64 (x.col : Nat)] 35)) (.cells #[.int .i64 0, .string ⟨#[]⟩, .int .i64 0, .int .i64 0, .int .i64 0] 35)
              have hbz := new_below (wr.alloc (.cells #[.int .i64 (x.kind : Nat), .string ⟨x.text.toArray⟩, .int .i64 x.n, .int .i64 (x.line : Nat), .int .i64 (x.col : Nat)] 35)) (.cells #[.int .i64 (x.kind : Nat), .string ⟨x.text.toArray⟩, .int .i64 x.n, .int .i64 (x.line : Nat), .int .i64 (x.col : Nat)] 35)
              have G1' := ((G1.next hB.out).next hbx).next hby
              obtain ⟨a0, a1, a2, a3, a4⟩ := G1'.get hx1
              have hg1 := (G1.next hB.out).1
              have hB2 := Lib.hid (on2 (on2 hB.out hbx) hbz)
              have kk : (k : Int) < (L.length : Int) - 1 := by omega
              clear G1' G1 G3 G3' e1 e2 hx hx1 hB hbx hby hbz
              go_wp2
              go_roundw
              case rel => exact ⟨k + 1, by omega, by go_num, hB2⟩
              case measure => simp [intOf]; omega
            · obtain ⟨y, hy, hxy⟩ := e2 (by omega)
              subst hxy
              obtain ⟨J, hJ⟩ : ∃ J : Nat, J = k + 1 - L.length := ⟨_, rfl⟩
              rw [← hJ] at hy
              have hJM : J < M.length := (List.getElem?_eq_some_iff.1 hy).1
              have hyl := HTL.out y (List.mem_of_getElem? hy)
              obtain ⟨g2, rfl, G2⟩ := HG2.out (by omega)
              simp only at c0 c1 c2 c3 c4
              rw [show ((y.line + (1 + d) : Nat) : Int) = (y.line : Int) + (1 + (d : Int)) by omega] at c3
              have hbx := new_below wr (.cells #[.int .i64 (y.kind : Nat), .string ⟨y.text.toArray⟩, .int .i64 y.n, .int .i64 ((y.line : Int) + (1 + (d : Int))), .int .i64 (y.col : Nat)] 35)
              have hby := new_below (wr.alloc (.cells #[.int .i64 (y.kind : Nat), .string ⟨y.text.toArray⟩, .int .i64 y.n, .int .i64 ((y.line : Int) + (1 + (d : Int))), .int .i64 (y.col : Nat)] 35)) (.cells #[.int .i64 0, .string ⟨#[]⟩, .int .i64 0, .int .i64 0, .int .i64 0] 35)
              have hbz := new_below (wr.alloc (.cells #[.int .i64 (y.kind : Nat), .string ⟨y.text.toArray⟩, .int .i64 y.n, .int .i64 ((y.line : Int) + (1 + (d : Int))), .int .i64 (y.col : Nat)] 35)) (.cells #[.int .i64 (y.kind : Nat), .string ⟨y.text.toArray⟩, .int .i64 y.n, .int .i64 ((y.line : Int) + (1 + (d : Int))), .int .i64 (y.col : Nat)] 35)
              have G2' := ((G2.next hB.out).next hbx).next hby
              obtain ⟨a0, a1, a2, a3, a4⟩ := G2'.get hy
              have hg2 := (G2.next hB.out).1
              have hB2 := Lib.hid (on2 (on2 hB.out hbx) hbz)
              have kk : ¬ (k : Int) < (L.length : Int) - 1 := by omega
              have kj : (k : Int) - (L.length : Int) + 1 = (J : Int) := by omega
              clear G2' G2 G3 G3' e1 e2 hx hy hB hbx hby hbz hJ
              go_wp2
              go_roundw
              case rel => exact ⟨k + 1, by omega, by go_num, hB2⟩
              case measure => simp [intOf]; omega
          · obtain rfl : k = N.length := by omega
            have BB := hB.out
            go_wp2
            go_ret
            exact ⟨rfl, on2 B6 BB⟩
      · have he2' : ¬ ((er2 : Nat) : Int) = 0 := by omega
        obtain ⟨rfl, rfl, rfl⟩ := hTwo.1 he2
        obtain ⟨p0, p1, pz⟩ := P2d
        obtain ⟨q0, q1, qz⟩ := P3d
        clear hTwo T1d T2d T3d he2
        go_wp2
        go_ret
        exact ⟨by simp, B6⟩
    · have he1' : ¬ ((er1 : Nat) : Int) = 0 := by omega
      clear T1d T2d T3d P2d P3d HTWO CN
      go_wp2_with fail
      with_reducible refine (WK _ L6').mono ?_
      rintro e w7 ⟨rfl, b7⟩
      have B7 := on2 B6 b7
      clear B6 b7 L6' WK
      go_wp2
      go_ret
      exact ⟨rfl, B7⟩
/-! ### the row -/
open Go.ChangeShapes Go.WideShapes Go.ChangeAt
theorem max_cell {w : World} (h : w.ShapedOpen Tryd.prog) : ∃ m, w.cell? ⟨0, 0, none⟩ = some (.int .i64 m) :=
  Go.Proofs.cell_of_shapedOpen_int (zero := #[.int .i64 0]) (t := 3) h (of_decide_eq_true (by kernel_rfl)) (by kernel_rfl) rfl (by kernel_rfl) (by kernel_rfl) Tryd.underlying3
theorem at_world {H : Type} {enc : TypeId × Value → H} (W : World) (base : Nat) (args : Array Value) (ds gs : List (DataW H)) (before : List MemPlace)
    (hval0 : ∀ (j : Nat) t v, Tryd.f5.params[j]? = some t → args[j]? = some v → Value.okWide Tryd.prog W .any base t v)
    (hW : DataW.Whole enc Tryd.prog Tryd.f5.params.toList Rows.lexLinesSpec.vars false W args.toList ds gs before)
    (hsz0 : (DataW.weightsEach Tryd.prog (Tryd.f5.params.toList ++ Rows.lexLinesSpec.plain.varTypes Tryd.prog) (ds ++ gs)).all (· ≤ reachBytes) = true)
    (hL : laidMetH Tryd.prog laidL W) (m : Int) (hm : W.cell? ⟨0, 0, none⟩ = some (.int .i64 m)) :
    Calls Tryd.prog 5 args W fun e W' => ∃ v, e = .returned v ∧ Rows.lexLinesSpec.post enc Tryd.prog Tryd.f5 false true false false W args v W' := by
  have hval : ∀ (j : Nat) t v, Tryd.f5.params[j]? = some t → args[j]? = some v → Value.okWide Tryd.prog W .any base t v := hval0
  have hW' := hW
  obtain ⟨p, q, hA0, hV, rfl, hfz, hnd⟩ := hW
  have hA : DataW.TrodAll enc Tryd.prog W 0 (fun _ => true) true Tryd.f5.params.toList args.toList ds p := hA0
  rw [Tryd.params5] at hA hval
  obtain ⟨v0, vs0, d0, ds0, p0, q0, hargs, rfl, rfl, h0, r0⟩ := trodAll_cons hA
  obtain ⟨v1, vs1, d1, ds1, p1, q1, rfl, rfl, rfl, h1, r1⟩ := trodAll_cons r0
  obtain ⟨v2, vs2, d2, ds2, p2, q2, rfl, rfl, rfl, h2, r2⟩ := trodAll_cons r1
  obtain ⟨rfl, rfl, rfl⟩ := trodAll_nil r2
  obtain rfl : args = #[v0, v1, v2] := by cases args; simp_all
  obtain ⟨rfl, rfl⟩ := trodVars_none hV
  have k0 := h0
  have lt0 : ∀ x ∈ p0, x.block < W.heap.size := by obtain ⟨m, hm⟩ := k0; exact DataW.trod_lt m _ _ _ hm
  obtain ⟨s0, rfl, rfl, _, _⟩ := Go.ChangeMaps.open_string Tryd.underlying9 (hval 0 9 v0 rfl rfl) h0
  have ss0 : s0.size ≤ 281474976710656 := by
    have hz := sized_string hsz0 (j := 0) (t := 9) (bytes := s0.data.toList) (by rw [Tryd.params5]; rfl) rfl
    have hr : reachBytes < 2 ^ 47 := reachBytes_lt
    rw [← Lib.size_eq] at hz
    omega
  have k1 := h1
  have lt1 : ∀ x ∈ p1, x.block < W.heap.size := by obtain ⟨m, hm⟩ := k1; exact DataW.trod_lt m _ _ _ hm
  obtain ⟨s1, rfl, rfl, _, _⟩ := Go.ChangeMaps.open_string Tryd.underlying9 (hval 1 9 v1 rfl rfl) h1
  have ss1 : s1.size ≤ 281474976710656 := by
    have hz := sized_string hsz0 (j := 1) (t := 9) (bytes := s1.data.toList) (by rw [Tryd.params5]; rfl) rfl
    have hr : reachBytes < 2 ^ 47 := reachBytes_lt
    rw [← Lib.size_eq] at hz
    omega
  have k2 := h2
  have lt2 : ∀ x ∈ p2, x.block < W.heap.size := by obtain ⟨m, hm⟩ := k2; exact DataW.trod_lt m _ _ _ hm
  obtain ⟨s2, rfl, rfl, _, _⟩ := Go.ChangeMaps.open_string Tryd.underlying9 (hval 2 9 v2 rfl rfl) h2
  have ss2 : s2.size ≤ 281474976710656 := by
    have hz := sized_string hsz0 (j := 2) (t := 9) (bytes := s2.data.toList) (by rw [Tryd.params5]; rfl) rfl
    have hr : reachBytes < 2 ^ 47 := reachBytes_lt
    rw [← Lib.size_eq] at hz
    omega
  clear hA0 hval0
  refine (walk s0 s1 s2 ss0 ss1 ss2 W  (libOk_of_laid hL) (utf8_of_laid hL) m hm).mono fun e W' ⟨he, bel⟩ => ?_
  subst he
  exact ⟨_, rfl, _, _, _, [], _, [], hW', trodAll_mk1 (shut_bool Tryd.underlying4 _), (trodAll_cons_mk (Below.trod laidOut (by kernel_rfl) (of_decide_eq_true (by kernel_rfl)) k0 bel lt0) (trodAll_cons_mk (Below.trod laidOut (by kernel_rfl) (of_decide_eq_true (by kernel_rfl)) k1 bel lt1) (trodAll_cons_mk (Below.trod laidOut (by kernel_rfl) (of_decide_eq_true (by kernel_rfl)) k2 bel lt2) trodAll_mk0))), rfl, bel.frame _, fun h => by cases h⟩

theorem lifted (os : Os) (started : os.Started) (H : Type) (enc : TypeId × Value → H) :
    ReturnsInHanded {} Tryd.checked os 5 .any (fun w args => (Rows.lexLinesSpec.pre enc Tryd.prog Tryd.f5 [] false w args ∧ laidMetH Tryd.prog laidL w) ∧ sizedMet enc Tryd.prog Tryd.f5 (OpenSpec.ofChange Rows.lexLinesSpec) false w args)
      (Rows.lexLinesSpec.post enc Tryd.prog Tryd.f5 false true false false) := by
  refine returnsInHanded_of_calls (C := Tryd.checked) own started (by kernel_rfl)
    (ChangeSpec.witness_shaped (enc := enc) (C := Tryd.checked) (os := os) (X := fun w _ => laidMetH Tryd.prog laidL w) false (World.laidAll Tryd.prog os laidL) #[.string ⟨#[]⟩, .string ⟨#[]⟩, .string ⟨#[]⟩] 8 (World.laidAll_os _ _ _) (start_shaped os) (by kernel_rfl) (by kernel_rfl) (by kernel_rfl) (start_met os _)) ?_
  intro wS tape inp _ hsh _ hok hpre _
  obtain ⟨_, _, _, fn', hfn', _, _, _, _, hval9⟩ := hok
  obtain rfl : fn' = Tryd.f5 := Option.some.inj (hfn'.symm.trans Tryd.func5)
  obtain ⟨⟨⟨ds, gs, before, hw0, _⟩, hx0⟩, hz0⟩ := hpre
  have hW9 := DataW.Whole.of_heap (w' := wS.forCall tape inp) (by rfl) hw0
  have hL9 : laidMetH Tryd.prog laidL (wS.forCall tape inp) := hx0.of_heap (by rfl)
  have hsz9 := hz0.weights hw0
  obtain ⟨m, hm9⟩ := max_cell hsh
  refine (at_world (wS.forCall tape inp) wS.heap.size inp.args ds gs before hval9 hW9 hsz9 hL9 m hm9).mono ?_
  rintro e W' ⟨v, he, hp⟩
  subst he
  exact ChangeSpec.post_blind hp

theorem over : Rows.lexLinesRow.holds Tryd.pinned (OpenSpec.ofChange Rows.lexLinesSpec) :=
  OpenClaim.holds_of_wide 5 Tryd.f5 rfl rfl rfl rfl rfl rfl rfl ⟨rfl, rfl, rfl, rfl, rfl⟩ rfl rfl rfl rfl rfl (by kernel_rfl) Tryd.func5 (by kernel_rfl)
    (of_decide_eq_true (by kernel_rfl)) (by unfold Func.isWrapper; first | (rw [if_pos (by decide +kernel)]; kernel_rfl) | (rw [if_neg (by decide +kernel)]; exact ⟨rfl, rfl⟩))
    (fun os started H enc _ => lifted os started H enc)

theorem card : Rows.LexLinesCardSaid :=
  Claim7.holds_tied_plain_at .later [] [.data, .data, .data, .data, .sentinel, .sentinel, .pinned] true _ true
    over (fun _ h => by cases h) (by kernel_rfl) (fun _ h => by cases h) lexLines_row_tie rfl ⟨rfl, rfl⟩ (by kernel_rfl) rfl
    (fun f fn hf hfn => by
      obtain rfl : f = 5 := Option.some.inj ((show Tryd.prog.funcNamed Rows.lexLinesRow.func = some 5 by kernel_rfl).symm.trans hf) |>.symm
      obtain rfl : fn = Tryd.f5 := (Option.some.inj (Tryd.func5.symm.trans hfn)).symm
      exact ⟨by kernel_rfl, fun j t ht => by
        rw [Tryd.params5] at ht
        have hm : t ∈ [9, 9, 9] := by simpa using Array.mem_of_getElem? ht
        have hall : ([9, 9, 9].all fun u => !Tryd.prog.wantsStandIn u) = true := by kernel_rfl
        exact (show Tryd.prog.wantsStandIn t = false by simpa using List.all_eq_true.1 hall t hm)⟩)
    (by kernel_rfl)

end Go.Proofs.YtmiibffbakbklaaDoor.lexLines
namespace Go.Proofs.YtmiibffbakbklaaDoor
theorem lexLines_holds : Rows.LexLinesCardSaid := lexLines.card
#print axioms lexLines_holds
end Go.Proofs.YtmiibffbakbklaaDoor

