/-
  What the document's Parse does with a text of the way of a knapsack.
-/
import Derived.Test.YtbadingdklenhaaGreatDoorParseRefAllM
namespace Go.Proofs.YtbadingdklenhaaGreatDoor
set_option maxRecDepth 100000
open Go.RowKit

def planW0B (sb g k m C l c q : Nat) : Plan := { ks := [0, 0, 0, 0, 0, 0, 0, 0, 0, 0, 0, 0, 0, 0, 0, 0, 0, 0, 0, 0, 0, 0, 0, 0, 0, 0, 0, 0, 2, 2, 0], ds := [89, 90, 91, 92, 93, 94, 95, 96, 97, 98, 99, 100, 101, 102, 103, 104, 105, 106, 107, 108, 109, 110, 111, 112, 113, 114, 115, 116, 0, 0, 4], vs := [.agg #[.int .i64 0, .int .i64 0, .slice none 0 0, .slice none 0 0, .int .i64 0, .slice none 0 0], .pointer (some ⟨sb, 0, none⟩), .pointer (some ⟨sb, 0, none⟩), .pointer (some ⟨sb, 0, none⟩), .slice (some ⟨g, 0, none⟩) m C, .pointer (some ⟨sb, 0, none⟩), .pointer (some ⟨sb, 0, none⟩), .pointer (some ⟨sb, 1, none⟩), .int .i64 (k : Nat), .pointer (some ⟨g, k * 5, none⟩), .pointer (some ⟨g, k * 5 + 3, none⟩), .int .i64 (l : Nat), .pointer (some ⟨sb, 0, none⟩), .pointer (some ⟨sb, 0, none⟩), .pointer (some ⟨sb, 0, none⟩), .slice (some ⟨g, 0, none⟩) m C, .pointer (some ⟨sb, 0, none⟩), .pointer (some ⟨sb, 0, none⟩), .pointer (some ⟨sb, 1, none⟩), .int .i64 (k : Nat), .pointer (some ⟨g, k * 5, none⟩), .pointer (some ⟨g, k * 5 + 4, none⟩), .int .i64 (c : Nat), .agg #[.int .i64 (l : Nat), .int .i64 (c : Nat)], .pointer (some ⟨sb, 0, none⟩), .pointer (some ⟨sb, 0, none⟩), .pointer (some ⟨sb, 2, none⟩), .int .i64 (q : Nat), undef, undef, .int .i64 (q : Nat)], ss := [0, 0, 0, 0, 0, 0, 0, 0, 0, 0, 0, 0, 0, 0, 0, 0, 0, 0, 0, 0, 0, 0, 0, 0, 0, 0, 0, 0, 0, 0, 0], zs := [#[], #[], #[], #[], #[], #[], #[], #[], #[], #[], #[], #[], #[], #[], #[], #[], #[], #[], #[], #[], #[], #[], #[], #[], #[], #[], #[], #[], #[], #[], #[]], fs := [#[], #[], #[], #[], #[], #[], #[], #[], #[], #[], #[], #[], #[], #[], #[], #[], #[], #[], #[], #[], #[], #[], #[], #[], #[], #[], #[], #[], #[], #[], #[]], ts := [0, 0, 0, 0, 0, 0, 0, 0, 0, 0, 0, 0, 0, 0, 0, 0, 0, 0, 0, 0, 0, 0, 0, 0, 0, 0, 0, 0, 0, 0, 0] }
def planW0C (sb g k m C l c q : Nat) : Plan := { ks := [0, 0, 0, 0, 0, 0, 0, 0, 0, 0, 0, 0, 0, 0, 0, 0, 0, 0, 0, 0, 0, 0, 0, 0, 0, 0, 0, 0, 2, 2, 0], ds := [89, 90, 91, 92, 93, 94, 95, 96, 97, 98, 99, 100, 101, 102, 103, 104, 105, 106, 107, 108, 109, 110, 111, 112, 113, 114, 115, 116, 0, 0, 4], vs := [.agg #[.int .i64 0, .int .i64 0, .slice none 0 0, .slice none 0 0, .int .i64 0, .slice none 0 0], .pointer (some ⟨sb, 0, none⟩), .pointer (some ⟨sb, 0, none⟩), .pointer (some ⟨sb, 0, none⟩), .slice (some ⟨g, 0, none⟩) m C, .pointer (some ⟨sb, 0, none⟩), .pointer (some ⟨sb, 0, none⟩), .pointer (some ⟨sb, 1, none⟩), .int .i64 (k : Nat), .pointer (some ⟨g, k * 5, none⟩), .pointer (some ⟨g, k * 5 + 3, none⟩), .int .i64 (l : Nat), .pointer (some ⟨sb, 0, none⟩), .pointer (some ⟨sb, 0, none⟩), .pointer (some ⟨sb, 0, none⟩), .slice (some ⟨g, 0, none⟩) m C, .pointer (some ⟨sb, 0, none⟩), .pointer (some ⟨sb, 0, none⟩), .pointer (some ⟨sb, 1, none⟩), .int .i64 (k : Nat), .pointer (some ⟨g, k * 5, none⟩), .pointer (some ⟨g, k * 5 + 4, none⟩), .int .i64 (c : Nat), .agg #[.int .i64 (l : Nat), .int .i64 (c : Nat)], .pointer (some ⟨sb, 0, none⟩), .pointer (some ⟨sb, 0, none⟩), .pointer (some ⟨sb, 2, none⟩), .int .i64 (q : Nat), undef, undef, .int .i64 (q : Nat)], ss := [0, 0, 0, 0, 0, 0, 0, 0, 0, 0, 0, 0, 0, 0, 0, 0, 0, 0, 0, 0, 0, 0, 0, 0, 0, 0, 0, 0, 0, 0, 0], zs := [#[], #[], #[], #[], #[], #[], #[], #[], #[], #[], #[], #[], #[], #[], #[], #[], #[], #[], #[], #[], #[], #[], #[], #[], #[], #[], #[], #[], #[], #[], #[]], fs := [#[], #[], #[], #[], #[], #[], #[], #[], #[], #[], #[], #[], #[], #[], #[], #[], #[], #[], #[], #[], #[], #[], #[], #[], #[], #[], #[], #[], #[], #[], #[]], ts := [0, 0, 0, 0, 0, 0, 0, 0, 0, 0, 0, 0, 0, 0, 0, 0, 0, 0, 0, 0, 0, 0, 0, 0, 0, 0, 0, 0, 0, 0, 0] }
set_option maxHeartbeats 8000000 in
theorem rparse_w0 (s : ByteArray) (he : (lexP s.data.toList).err = 0) (h1 : isW (lexP s.data.toList).toks kW 0 = true) (w : World) : Calls Tryz.prog 13 #[.string s] w (IsPs (parseL s.data.toList) w) := by
  have LX := fun W => rlex_any s W
  obtain ⟨W2, hW2⟩ : ∃ q, q = ((w.alloc (.cells #[.int .i64 0, .int .i64 0, .slice none 0 0, .slice none 0 0, .int .i64 0, .slice none 0 0] 36)).alloc (.cells #[.int .i64 0, .int .i64 0] 47)).alloc (.cells #[.int .i64 0, .int .i64 0, .slice none 0 0, .slice none 0 0, .int .i64 0, .slice none 0 0] 36) := ⟨_, rfl⟩
  have hsz : W2.heap.size = w.heap.size + 3 := by rw [hW2]; simp
  have hb2 : Below w.heap.size w W2 := by
    rw [hW2]
    exact ((new_below w _).alloc (by simp) _).alloc (by simp; omega) _
  have hI2 : IBlk w.heap.size 36 (.int .i64 0) (.int .i64 0) (.slice none 0 0) (.slice none 0 0) (.int .i64 0) (.slice none 0 0) W2 := by
    rw [hW2]
    exact ((iblk_new w _ _ _ _ _ _ _).next (new_below _ _)).next (new_below _ _)
  have hP2 : W2.heap[w.heap.size + 1]? = some (.cells #[.int .i64 0, .int .i64 0] 47 (0, 0)) := by
    rw [hW2]
    rw [Below.heap_alloc _ _ _ (by simp)]
    have := heap_alloc_new (w.alloc (.cells #[.int .i64 0, .int .i64 0, .slice none 0 0, .slice none 0 0, .int .i64 0, .slice none 0 0] 36)) (.cells #[.int .i64 0, .int .i64 0] 47)
    rw [World.size_alloc] at this
    exact this
  have hN2 : IBlk (w.heap.size + 1 + 1) 36 (.int .i64 0) (.int .i64 0) (.slice none 0 0) (.slice none 0 0) (.int .i64 0) (.slice none 0 0) W2 := by
    rw [hW2]
    have := iblk_new ((w.alloc (.cells #[.int .i64 0, .int .i64 0, .slice none 0 0, .slice none 0 0, .int .i64 0, .slice none 0 0] 36)).alloc (.cells #[.int .i64 0, .int .i64 0] 47)) (.int .i64 0) (.int .i64 0) (.slice none 0 0) (.slice none 0 0) (.int .i64 0) (.slice none 0 0) 36
    rw [World.size_alloc, World.size_alloc] at this
    exact this
  have ep : parseL s.data.toList = psOf (lexP s.data.toList).toks (wholeR (lexP s.data.toList).toks) := by unfold parseL; exact if_pos he
  have hE := endL_of he
  have hcnt := lexP_cnt s.data.toList
  rw [ep]
  generalize hR : lexP s.data.toList = RS at *
  obtain ⟨L, pl1, pc1, er⟩ := RS
  simp only at *
  subst he
  clear hR ep
  go_enter Tryz.func13, Tryz.ntmps13
  go_wp2_with fail
  rw [← hW2]
  with_reducible refine (LX _).mono ?_
  rintro e w3 ⟨v, rfl, own, b3⟩
  have hT := toks_of_own own
  obtain ⟨A, C, rfl, hc1, hc2, hg⟩ := hT
  obtain ⟨g, rfl, hT⟩ := hg hE.pos
  have hs3 := b3.size
  have hgB : w.heap.size + 1 + 1 < g := by
    have := (own.lt g rfl).1
    omega
  have nb4 := new_below w3 (.cells #[.int .i64 (pl1 : Nat), .int .i64 (pc1 : Nat)] 47)
  have nb5 := new_below (w3.alloc (.cells #[.int .i64 (pl1 : Nat), .int .i64 (pc1 : Nat)] 47)) (.cells #[.slice (some ⟨g, 0, none⟩) L.length C, .int .i64 0, .int .i64 0] 89)
  have hn5 := heap_alloc_new (w3.alloc (.cells #[.int .i64 (pl1 : Nat), .int .i64 (pc1 : Nat)] 47)) (.cells #[.slice (some ⟨g, 0, none⟩) L.length C, .int .i64 0, .int .i64 0] 89)
  rw [World.size_alloc] at hn5
  obtain ⟨W5, hW5⟩ : ∃ q, q = (w3.alloc (.cells #[.int .i64 (pl1 : Nat), .int .i64 (pc1 : Nat)] 47)).alloc (.cells #[.slice (some ⟨g, 0, none⟩) L.length C, .int .i64 0, .int .i64 0] 89) := ⟨_, rfl⟩
  rw [← hW5] at nb5 hn5
  have b35 : Below w3.heap.size w3 W5 := nb4.trans (nb5.mono nb4.size)
  have b25 := b3.trans (b35.mono b3.size)
  have hF5 : Fr (w3.heap.size + 1) g C L (0, 0) w W5 :=
    ⟨hI2.next b25, (b25.block _ (by omega)).trans hP2, hN2.next b25, ⟨hn5, hT.next b35, by have := hT.1; omega, hc1, hc2, hE.pos⟩, hb2.trans (b25.mono (by omega)), by omega, hgB⟩
  obtain ⟨sb, hsb⟩ : ∃ x, x = w3.heap.size + 1 := ⟨_, rfl⟩
  rw [← hsb] at hF5
  have HF := Lib.hid hF5
  have IK := fun W hW => ris_any sb g C L (0, 0) ⟨#[107, 110, 97, 112, 115, 97, 99, 107]⟩ kW rfl W hW
  have IA := fun W hW => ris_any sb g C L (0, 0) ⟨#[97, 115, 115, 105, 103, 110, 109, 101, 110, 116]⟩ aW rfl W hW
  have IT := fun W hW => ris_any sb g C L (0, 0) ⟨#[116, 115, 112]⟩ tW rfl W hW
  have IC := fun W hW => ris_any sb g C L (0, 0) ⟨#[99, 111, 118, 101, 114]⟩ cW rfl W hW
  simp only at IK IA IT IC
  have FL := fun q W hW => rfail_any sb g C L q 4 4 rfl W hW
  have FL4 := fun q W hW => rfail_any sb g C L q 4 4 rfl W hW
  have KN := fun W hW => rknap_any sb g C L hE 1 W hW
  have CV := fun W hW => rcover_any sb g C L hE hcnt 1 W hW
  have SQ1 := fun W hW => rsquare_any sb g C L hE 1 1 W hW
  have SQ2 := fun W hW => rsquare_any sb g C L hE 1 2 W hW
  clear hI2 hP2 hN2 b3 hb2 own hg hT hW2 LX hF5 nb4 nb5 b35 b25 hn5
  go_wp2_with fail
  rw [← hW5, ← hsb]
  clear hW5 hsb
  have F5 := HF
  clear HF
  have h2 : isW L aW 0 = false := isW_other h1 (by decide)
  have h3 : isW L tW 0 = false := isW_other h1 (by decide)
  have h4 : isW L cW 0 = false := isW_other h1 (by decide)
  rw [h1] at IK
  rw [h2] at IA
  rw [h3] at IT
  rw [h4] at IC
  have hR : instR L = knapR L 1 := by unfold instR; rw [if_pos h1]
  have hg1 := isW_goes hE h1
  clear SQ1 SQ2 CV FL
  with_reducible refine (IK _ F5.out.st).mono ?_
  rintro e v6 ⟨rfl, b6⟩
  have F6 := Lib.hid (F5.out.next b6)
  clear F5 b6 IK
  go_wp2_with fail
  with_reducible refine (IA _ F6.out.st).mono ?_
  rintro e v7 ⟨rfl, b7⟩
  have F7 := Lib.hid (F6.out.next b7)
  clear F6 b7 IA
  go_wp2_with fail
  with_reducible refine (IT _ F7.out.st).mono ?_
  rintro e v8 ⟨rfl, b8⟩
  have F8 := Lib.hid (F7.out.next b8)
  clear F7 b8 IT
  go_wp2_with fail
  with_reducible refine (IC _ F8.out.st).mono ?_
  rintro e v9 ⟨rfl, b9⟩
  have F9 := Lib.hid (F8.out.next b9)
  clear F8 b9 IC
  obtain ⟨n0, n1, n2, n3, n4, n5⟩ := F9.out.non.box
  obtain ⟨c0, c1, c2, f1, f2⟩ := F9.out.st.cells
  have hs := F9.out.st.size
  have hgl := F9.out.st.toks.1
  have hse := F9.out.sep
  simp only at c1 c2
  have F9N := F9.out.non.lt
  obtain ⟨xb, hxb⟩ : ∃ x, x = v9.heap.size := ⟨_, rfl⟩
  have F10 := F9.out.kb ((Kb.refl sb _).store (a := ⟨sb, 1, none⟩) rfl (.int .i64 ((1 : Nat) : Int))) (F9.out.st.goes (k := 1) hg1)
  rw [show ((1 : Nat) : Int) = 1 from rfl] at F10
  have hsz9 : (v9.setCell ⟨sb, 1, none⟩ (.int .i64 1)).heap.size = v9.heap.size := by simp [World.setCell]
  have nb := new_below (v9.setCell ⟨sb, 1, none⟩ (.int .i64 1)) (.cells #[.int .i64 0, .int .i64 0, .slice none 0 0, .slice none 0 0, .int .i64 0, .slice none 0 0] 36)
  have F11 := F10.next nb
  have X11 := iblk_new (v9.setCell ⟨sb, 1, none⟩ (.int .i64 1)) (.int .i64 0) (.int .i64 0) (.slice none 0 0) (.slice none 0 0) (.int .i64 0) (.slice none 0 0) 36
  rw [hsz9] at X11
  have F11 := Lib.hid F11
  have X11 := Lib.hid X11
  clear F9 F10 nb
  go_wp2_with fail
  with_reducible refine (KN _ F11.out.st).mono ?_
  rintro r v12 ⟨v, q, a, bb, A0, m0, C0, A1, m1, C1, zz, A2, m2, C2, rfl, rfl, hst, kb, hrel⟩
  have F12 := F11.out.kb kb hst
  have X12 := X11.out.kb kb (show v9.heap.size ≠ sb by omega)
  have hsz11 := F11.out.be.size
  have hx11 := X11.out.lt
  have hx12 := X12.lt
  obtain ⟨x0, x1, x2, x3, x4, x5⟩ := X12.box
  have f := X12.free
  have fx0 := f 0
  have fx1 := f 1
  have fx2 := f 2
  have fx3 := f 3
  have fx4 := f 4
  have fx5 := f 5
  have MD := Lib.hid (Mid.part (w := w) hR X12 (by have := F11.out.non.lt; omega) hx11 hrel)
  have FR := Lib.hid (F12.put (x := v9.heap.size) (v0 := .int .i64 a) (v1 := .int .i64 bb) (v2 := .slice A0 m0 C0) (v3 := .slice A1 m1 C1) (v4 := .int .i64 zz) (v5 := .slice A2 m2 C2) (by omega) (by omega) (by omega))
  clear F11 X11 f X12 F12 hst kb hrel KN c0 c1 c2 f1 f2 n0 n1 n2 n3 n4 n5
  obtain ⟨WM, hWM⟩ : ∃ W, W = set6 v9.heap.size (.int .i64 a) (.int .i64 bb) (.slice A0 m0 C0) (.slice A1 m1 C1) (.int .i64 zz) (.slice A2 m2 C2) v12 := ⟨_, rfl⟩
  rw [← hWM] at MD FR
  unfold set6 at hWM
  go_wp2
  rw [← hWM]
  rw [← hxb] at MD F9N ⊢
  clear hWM x0 x1 x2 x3 x4 x5 fx0 fx1 fx2 fx3 fx4 fx5
  have hxN := F9N
  clear F9N hxb hsz9 hsz11 hx11 hx12 hcnt hR hs hgl hse hg1
  obtain ⟨k, ec⟩ := q
  have HMM := Lib.hid (And.intro FR.out (And.intro MD.out hxN))
  clear FR MD hxN
  have FR := Lib.hid HMM.out.1
  have MD := Lib.hid HMM.out.2.1
  have hxN := HMM.out.2.2
  clear HMM
  have hklt : k < L.length := FR.out.st.lt
  obtain ⟨x, hx⟩ := hE.at hklt
  obtain ⟨c0, c1, c2, _, _⟩ := FR.out.st.cells
  have hs12 := FR.out.st.size
  have hgl12 := FR.out.st.toks.1
  simp only at c1 c2
  obtain ⟨t0, _, _, _, _⟩ := FR.out.st.toks.get hx
  have hle := FR.out.st.le
  have hmx := FR.out.st.mx
  unfold maxLen at hmx
  have i1 : (0 : Int) ≤ (k : Int) := by omega
  have i2 : (k : Int) < (L.length : Int) := by omega
  have e1 : wholeR L = (instR L).nx fun I k => (tokR L 3 k).nx fun _ k1 => .ok I k1 := rfl
  have HX0 := Lib.hid hx
  obtain ⟨kd, hkd⟩ : ∃ kd : Int, ((x.kind : Nat) : Int) = kd := ⟨_, rfl⟩
  rw [hkd] at t0
  by_cases hc : x.kind = 3
  · have hkd3 : kd = 3 := by omega
    subst hkd3
    clear hx hkd
    go_quiet (fail)
    generalize hWB : WM.drewN _ = WB
    have FB0 : Fr sb g C L (k, ec) w WB := by rw [← hWB]; exact FR.out.next (below_drewN (Below.refl _ _) _)
    have MB0 : Mid L w xb (k, ec) WB := by rw [← hWB]; exact MD.out.next (below_drewN (Below.refl _ _) _)
    have FB := Lib.hid FB0
    have MB := Lib.hid MB0
    clear FR MD FB0 MB0 hWB c0 c1 c2 t0
    obtain ⟨ax, bbx, A0x, m0x, C0x, A1x, m1x, C1x, zzx, A2x, m2x, C2x, HXB0, hrel⟩ := MB.out
    have HXB := Lib.hid HXB0
    clear HXB0 MB
    rcases hrel with ⟨he0, I, hRi, hIn⟩ | ⟨he0, hRi⟩
    · have he0 : ec = 0 := he0
      subst he0
      have hWR : wholeR L = .ok I (k + 1) := by
        rw [e1, hRi]
        show (tokR L 3 k).nx _ = _
        unfold tokR
        rw [HX0.out]
        simp only
        rw [if_pos hc]
        rfl
      have HIN := Lib.hid hIn
      clear e1 hRi hIn hc
      have hps := Lib.hid (show psOf L (wholeR L) = ⟨I, 0, 0, 0⟩ by rw [hWR]; rfl)
      obtain ⟨z0, z1, z2, z3, z4, z5⟩ := FB.out.res.box
      obtain ⟨n0, n1, n2, n3, n4, n5⟩ := HXB.out.box
      have hPP := FB.out.pos
      have y0 : WB.cell? ⟨w.heap.size + 1, 0, none⟩ = some (.int .i64 0) := by unfold World.cell?; simp only [hPP]; rfl
      have y1 : WB.cell? ⟨w.heap.size + 1, 1, none⟩ = some (.int .i64 0) := by unfold World.cell?; simp only [hPP]; rfl
      have f := FB.out.res.free
      have f0 := f 0
      have f1 := f 1
      have f2 := f 2
      have f3 := f 3
      have f4 := f 4
      have f5 := f 5
      have g0 : WB.frozen? ⟨w.heap.size + 1, 0, none⟩ = false := frozen_of_row WB _ _ _ _ hPP
      have g1 : WB.frozen? ⟨w.heap.size + 1, 1, none⟩ = false := frozen_of_row WB _ _ _ _ hPP
      have hb0 : w.heap.size < WB.heap.size := FB.out.res.lt
      have hb1 : w.heap.size + 1 < WB.heap.size := lt_of_block hPP
      have hb3 : xb < WB.heap.size := HXB.out.lt
      have hse := FB.out.sep
      obtain ⟨c0, c1, c2, _, _⟩ := FB.out.st.cells
      have hs := FB.out.st.size
      simp only at c1 c2
      have q1 := ((held_set6 (b := w.heap.size) (v0 := .int .i64 ax) (v1 := .int .i64 bbx) (v2 := .slice A0x m0x C0x) (v3 := .slice A1x m1x C1x) (v4 := .int .i64 zzx) (v5 := .slice A2x m2x C2x) (w := WB) (F := fun q => q = w.heap.size + 1) (fun q hq => by omega)).2 _ rfl (by omega)).trans hPP
      have q0 := FB.out.res.set6 (v0 := .int .i64 ax) (v1 := .int .i64 bbx) (v2 := .slice A0x m0x C0x) (v3 := .slice A1x m1x C1x) (v4 := .int .i64 zzx) (v5 := .slice A2x m2x C2x)
      have q2 := heap_setCell_same _ (w.heap.size + 1) 1 _ _ (.int .i64 0) (heap_setCell_same _ (w.heap.size + 1) 0 _ _ (.int .i64 0) q1)
      have q3 := (q0.other (a := ⟨w.heap.size + 1, 0, none⟩) (show w.heap.size ≠ w.heap.size + 1 by omega) (.int .i64 0)).other (a := ⟨w.heap.size + 1, 1, none⟩) (show w.heap.size ≠ w.heap.size + 1 by omega) (.int .i64 0)
      have q4 := end8 (v0 := .int .i64 ax) (v1 := .int .i64 bbx) (v2 := .slice A0x m0x C0x) (v3 := .slice A1x m1x C1x) (v4 := .int .i64 zzx) (v5 := .slice A2x m2x C2x) (u0 := .int .i64 0) (u1 := .int .i64 0) HIN.out FB.out.be (by omega)
      have HQ := Lib.hid (And.intro q3 (And.intro q2 q4))
      unfold set6 at HQ
      clear f q0 q1 q2 q3 q4 hPP FB hWR HIN HXB
      go_wp2
      obtain ⟨z1', z2', z3', z4'⟩ := HQ.out
      clear HQ
      revert z1' z2' z3' z4'
      generalize ((((((((WB.setCell _ _).setCell _ _).setCell _ _).setCell _ _).setCell _ _).setCell _ _).setCell _ _).setCell _ _) = W8
      intro z1' z2' z3' z4'
      obtain ⟨e0, e1, e2, e3, e4, e5⟩ := z1'.box
      have e6 : W8.cell? ⟨w.heap.size + 1, 0, none⟩ = some (.int .i64 0) := by unfold World.cell?; simp only [z2']; rfl
      have e7 : W8.cell? ⟨w.heap.size + 1, 1, none⟩ = some (.int .i64 0) := by unfold World.cell?; simp only [z2']; rfl
      refine bodyPost_ret (v := .tuple #[.agg #[.int .i64 ax, .int .i64 bbx, .slice A0x m0x C0x, .slice A1x m1x C1x, .int .i64 zzx, .slice A2x m2x C2x], .agg #[.int .i64 0, .int .i64 0], .int .i64 0]) (by simp [results, Tryz.results13, go_sem, e0, e1, e2, e3, e4, e5, e6, e7]) rfl ?_
      rw [hps.out]
      exact ⟨_, rfl, z3', z4'⟩
    · have he0 : ec ≠ 0 := he0
      have hWR : wholeR L = .no k ec := by rw [e1, hRi]; rfl
      have he2 : ¬ (ec : Int) = 0 := by omega
      clear e1 hRi HXB hc
      have hx := HX0.out
      have hps := Lib.hid (show psOf L (wholeR L) = ⟨zIn, x.line, x.col, ec⟩ by rw [hWR]; simp [psOf, hx])
      have hF0 : Fr sb g C L (k, ec) w WB.drew := FB.out.next (Below.refl _ _).drew
      obtain ⟨W0, hW0⟩ : ∃ q, q = WB.drew := ⟨_, rfl⟩
      rw [← hW0] at hF0
      have HY : Hid (RM w.heap.size (x.line : Nat) (x.col : Nat) W0 (fun _ => false) WB.drew) := by rw [← hW0]; exact RM.start _ _ _ _
      obtain ⟨c0, c1, c2, _, _⟩ := FB.out.st.cells
      have hs := FB.out.st.size
      have hgl := FB.out.st.toks.1
      simp only at c1 c2
      have HF := Lib.hid hF0
      have HT := Lib.hid (hF0.st.toks.get hx)
      have HC := Lib.hid hF0.st.cells
      have hse := FB.out.sep
      clear FB hWR hx hF0 hW0
      go_wp2
      have ok : (planW0B sb g k L.length C x.line x.col ec).ok = true := rfl
      refine region_inv (Inv := fun lq_ aq_ wr => ∃ (e : Nat → Bool) (t : Nat → Value), lq_ = #[e 0, e 1, e 2, e 3, e 4, e 5, e 6, e 7, e 8, e 9, e 10, e 11, e 12, e 13, e 14, e 15, e 16, e 17, e 18, e 19, e 20, e 21, e 22, e 23, e 24, e 25, e 26, e 27, e 28, e 29, e 30] ∧ aq_ = ⟨#[.string s, undef, .pointer (some ⟨w.heap.size, 0, none⟩), .pointer (some ⟨w.heap.size + 1, 0, none⟩), t 4, .pointer (some ⟨w.heap.size + 1 + 1, 0, none⟩), .slice (some ⟨g, 0, none⟩) L.length C, .pointer (some ⟨w3.heap.size, 0, none⟩), .int .i64 0, .pointer (some ⟨sb, 0, none⟩), .bool true, .bool false, .bool false, .bool false, .pointer (some ⟨xb, 0, none⟩), .agg #[.int .i64 0, .int .i64 0, .slice none 0 0, .slice none 0 0, .int .i64 0, .slice none 0 0], .tuple #[.slice (some ⟨g, 0, none⟩) L.length C, .agg #[.int .i64 (pl1 : Int), .int .i64 (pc1 : Int)], .int .i64 0], .string s, .tuple #[.slice (some ⟨g, 0, none⟩) L.length C, .agg #[.int .i64 (pl1 : Int), .int .i64 (pc1 : Int)], .int .i64 0], .slice (some ⟨g, 0, none⟩) L.length C, .agg #[.int .i64 (pl1 : Int), .int .i64 (pc1 : Int)], .int .i64 0, .int .i64 0, .bool false, undef, undef, undef, .slice (some ⟨g, 0, none⟩) L.length C, .agg #[.slice (some ⟨g, 0, none⟩) L.length C, .int .i64 0, .int .i64 0], .pointer (some ⟨sb, 0, none⟩), .pointer (some ⟨sb, 0, none⟩), .bool true, .pointer (some ⟨sb, 0, none⟩), .bool false, .pointer (some ⟨sb, 0, none⟩), .bool false, .pointer (some ⟨sb, 0, none⟩), .bool false, .agg #[.int .i64 0, .int .i64 0, .slice none 0 0, .slice none 0 0, .int .i64 0, .slice none 0 0], .bool true, .bool false, .bool false, undef, undef, .bool false, .bool false, undef, undef, .bool false, .bool false, undef, undef, .bool false, undef, undef, .pointer (some ⟨sb, 0, none⟩), .pointer (some ⟨sb, 0, none⟩), .pointer (some ⟨sb, 1, none⟩), .bool true, .pointer (some ⟨sb, 0, none⟩), .agg #[.int .i64 a, .int .i64 bb, .slice A0 m0 C0, .slice A1 m1 C1, .int .i64 zz, .slice A2 m2 C2], .bool false, undef, undef, .bool false, undef, undef, .bool false, undef, undef, .pointer (some ⟨sb, 0, none⟩), .pointer (some ⟨sb, 0, none⟩), .pointer (some ⟨sb, 0, none⟩), .slice (some ⟨g, 0, none⟩) L.length C, .pointer (some ⟨sb, 0, none⟩), .pointer (some ⟨sb, 0, none⟩), .pointer (some ⟨sb, 1, none⟩), .int .i64 (k : Int), .pointer (some ⟨g, k * 5, none⟩), .pointer (some ⟨g, k * 5, none⟩), .int .i64 3, .bool false, undef, undef, .pointer (some ⟨sb, 0, none⟩), .pointer (some ⟨sb, 0, none⟩), .pointer (some ⟨sb, 2, none⟩), .int .i64 (ec : Int), .bool true, t 89, t 90, t 91, t 92, t 93, t 94, t 95, t 96, t 97, t 98, t 99, t 100, t 101, t 102, t 103, t 104, t 105, t 106, t 107, t 108, t 109, t 110, t 111, t 112, t 113, t 114, t 115, t 116, undef, undef], []⟩ ∧ Vals (planW0B sb g k L.length C x.line x.col ec) e t ∧ RM w.heap.size (x.line : Nat) (x.col : Nat) W0 e wr) (by kernel_rfl) ?step ?start ?done
      case start => exact ⟨fun _ => false, fun j => if j = 4 then .int .i64 0 else undef, rfl, rfl, Vals.start _ _, HY.out⟩
      case step =>
        rintro lq_ aq_ wr ⟨e, t, rfl, rfl, hs, hm⟩ q_ o ho hi ha
        match q_, ho, hi, ha with
        | 0, ho, hi, ha =>
          obtain rfl : _ = o := Option.some.inj ho
          have hi : e 0 = false := hi
          have B_ : IBlk (w.heap.size + 1 + 1) 36 (.int .i64 0) (.int .i64 0) (.slice none 0 0) (.slice none 0 0) (.int .i64 0) (.slice none 0 0) wr := hm.row HF.out.non (by omega) (by omega)
          obtain ⟨n0_, n1_, n2_, n3_, n4_, n5_⟩ := B_.box
          clear B_
          refine wpOp_step (i := 0) rfl (fun K hK => ?_)
          have HK : Shut (∀ a w, _ → K a w) := hK
          clear hK ho
          have HS := Lib.hid hs
          have HM := Lib.hid hm
          have HI := Lib.hid hi
          clear hs ha hm hi
          go_simp
          exact HK.out _ _ ⟨upd e 0 true, upd t 89 _, rfl, rfl, by exact HS.out.put ok (i := 0) rfl, (by exact HM.out.mark (by decide) (by decide))⟩
        | 1, ho, hi, ha =>
          obtain rfl : _ = o := Option.some.inj ho
          have hi : e 1 = false := hi
          refine wpOp_step (i := 1) rfl (fun K hK => ?_)
          have HK : Shut (∀ a w, _ → K a w) := hK
          clear hK ho
          have HS := Lib.hid hs
          have HM := Lib.hid hm
          have HI := Lib.hid hi
          clear hs ha hm hi
          go_simp
          exact HK.out _ _ ⟨upd e 1 true, upd t 90 _, rfl, rfl, by exact HS.out.put ok (i := 1) rfl, (by exact HM.out.mark (by decide) (by decide))⟩
        | 2, ho, hi, ha =>
          obtain rfl : _ = o := Option.some.inj ho
          have hi : e 2 = false := hi
          have T1 : t 90 = .pointer (some ⟨sb, 0, none⟩) := hs.val 1 rfl (ha { on := 1, ground := .data } (by simp) rfl)
          have H1 := Lib.hid T1
          refine wpOp_step (i := 2) rfl (fun K hK => ?_)
          have HK : Shut (∀ a w, _ → K a w) := hK
          clear hK ho
          have HS := Lib.hid hs
          have HM := Lib.hid hm
          have HI := Lib.hid hi
          clear hs ha hm hi
          go_simp
          exact HK.out _ _ ⟨upd e 2 true, upd (upd t 90 _) 91 _, rfl, rfl, by rw [upd_self H1.out]; exact HS.out.put ok (i := 2) rfl, (by exact HM.out.mark (by decide) (by decide))⟩
        | 3, ho, hi, ha =>
          obtain rfl : _ = o := Option.some.inj ho
          have hi : e 3 = false := hi
          have T2 : t 91 = .pointer (some ⟨sb, 0, none⟩) := hs.val 2 rfl (ha { on := 2, ground := .data } (by simp) rfl)
          have H2 := Lib.hid T2
          refine wpOp_step (i := 3) rfl (fun K hK => ?_)
          have HK : Shut (∀ a w, _ → K a w) := hK
          clear hK ho
          have HS := Lib.hid hs
          have HM := Lib.hid hm
          have HI := Lib.hid hi
          clear hs ha hm hi
          go_simp
          exact HK.out _ _ ⟨upd e 3 true, upd (upd t 91 _) 92 _, rfl, rfl, by rw [upd_self H2.out]; exact HS.out.put ok (i := 3) rfl, (by exact HM.out.mark (by decide) (by decide))⟩
        | 4, ho, hi, ha =>
          obtain rfl : _ = o := Option.some.inj ho
          have hi : e 4 = false := hi
          have T3 : t 92 = .pointer (some ⟨sb, 0, none⟩) := hs.val 3 rfl (ha { on := 3, ground := .data } (by simp) rfl)
          have H3 := Lib.hid T3
          have q_ : wr.cell? ⟨sb, 0, none⟩ = some (.slice (some ⟨g, 0, none⟩) L.length C) := hm.cell HC.out.1 (by omega) (by omega)
          refine wpOp_step (i := 4) rfl (fun K hK => ?_)
          have HK : Shut (∀ a w, _ → K a w) := hK
          clear hK ho
          have HS := Lib.hid hs
          have HM := Lib.hid hm
          have HI := Lib.hid hi
          clear hs ha hm hi
          go_simp
          exact HK.out _ _ ⟨upd e 4 true, upd (upd t 92 _) 93 _, rfl, rfl, by rw [upd_self H3.out]; exact HS.out.put ok (i := 4) rfl, (by exact HM.out.mark (by decide) (by decide))⟩
        | 5, ho, hi, ha =>
          obtain rfl : _ = o := Option.some.inj ho
          have hi : e 5 = false := hi
          refine wpOp_step (i := 5) rfl (fun K hK => ?_)
          have HK : Shut (∀ a w, _ → K a w) := hK
          clear hK ho
          have HS := Lib.hid hs
          have HM := Lib.hid hm
          have HI := Lib.hid hi
          clear hs ha hm hi
          go_simp
          exact HK.out _ _ ⟨upd e 5 true, upd t 94 _, rfl, rfl, by exact HS.out.put ok (i := 5) rfl, (by exact HM.out.mark (by decide) (by decide))⟩
        | 6, ho, hi, ha =>
          obtain rfl : _ = o := Option.some.inj ho
          have hi : e 6 = false := hi
          have T5 : t 94 = .pointer (some ⟨sb, 0, none⟩) := hs.val 5 rfl (ha { on := 5, ground := .data } (by simp) rfl)
          have H5 := Lib.hid T5
          refine wpOp_step (i := 6) rfl (fun K hK => ?_)
          have HK : Shut (∀ a w, _ → K a w) := hK
          clear hK ho
          have HS := Lib.hid hs
          have HM := Lib.hid hm
          have HI := Lib.hid hi
          clear hs ha hm hi
          go_simp
          exact HK.out _ _ ⟨upd e 6 true, upd (upd t 94 _) 95 _, rfl, rfl, by rw [upd_self H5.out]; exact HS.out.put ok (i := 6) rfl, (by exact HM.out.mark (by decide) (by decide))⟩
        | 7, ho, hi, ha =>
          obtain rfl : _ = o := Option.some.inj ho
          have hi : e 7 = false := hi
          have T6 : t 95 = .pointer (some ⟨sb, 0, none⟩) := hs.val 6 rfl (ha { on := 6, ground := .data } (by simp) rfl)
          have H6 := Lib.hid T6
          refine wpOp_step (i := 7) rfl (fun K hK => ?_)
          have HK : Shut (∀ a w, _ → K a w) := hK
          clear hK ho
          have HS := Lib.hid hs
          have HM := Lib.hid hm
          have HI := Lib.hid hi
          clear hs ha hm hi
          go_simp
          exact HK.out _ _ ⟨upd e 7 true, upd (upd t 95 _) 96 _, rfl, rfl, by rw [upd_self H6.out]; exact HS.out.put ok (i := 7) rfl, (by exact HM.out.mark (by decide) (by decide))⟩
        | 8, ho, hi, ha =>
          obtain rfl : _ = o := Option.some.inj ho
          have hi : e 8 = false := hi
          have T7 : t 96 = .pointer (some ⟨sb, 1, none⟩) := hs.val 7 rfl (ha { on := 7, ground := .data } (by simp) rfl)
          have H7 := Lib.hid T7
          have q_ : wr.cell? ⟨sb, 1, none⟩ = some (.int .i64 (k : Nat)) := hm.cell HC.out.2.1 (by omega) (by omega)
          refine wpOp_step (i := 8) rfl (fun K hK => ?_)
          have HK : Shut (∀ a w, _ → K a w) := hK
          clear hK ho
          have HS := Lib.hid hs
          have HM := Lib.hid hm
          have HI := Lib.hid hi
          clear hs ha hm hi
          go_simp
          exact HK.out _ _ ⟨upd e 8 true, upd (upd t 96 _) 97 _, rfl, rfl, by rw [upd_self H7.out]; exact HS.out.put ok (i := 8) rfl, (by exact HM.out.mark (by decide) (by decide))⟩
        | 9, ho, hi, ha =>
          obtain rfl : _ = o := Option.some.inj ho
          have hi : e 9 = false := hi
          have T4 : t 93 = .slice (some ⟨g, 0, none⟩) L.length C := hs.val 4 rfl (ha { on := 4, ground := .data } (by simp) rfl)
          have H4 := Lib.hid T4
          have T8 : t 97 = .int .i64 (k : Nat) := hs.val 8 rfl (ha { on := 8, ground := .data } (by simp) rfl)
          have H8 := Lib.hid T8
          refine wpOp_step (i := 9) rfl (fun K hK => ?_)
          have HK : Shut (∀ a w, _ → K a w) := hK
          clear hK ho
          have HS := Lib.hid hs
          have HM := Lib.hid hm
          have HI := Lib.hid hi
          clear hs ha hm hi
          go_simp
          exact HK.out _ _ ⟨upd e 9 true, upd (upd (upd t 93 _) 97 _) 98 _, rfl, rfl, by rw [upd_self H4.out, upd_self H8.out]; exact HS.out.put ok (i := 9) rfl, (by exact HM.out.mark (by decide) (by decide))⟩
        | 10, ho, hi, ha =>
          obtain rfl : _ = o := Option.some.inj ho
          have hi : e 10 = false := hi
          have T9 : t 98 = .pointer (some ⟨g, k * 5, none⟩) := hs.val 9 rfl (ha { on := 9, ground := .data } (by simp) rfl)
          have H9 := Lib.hid T9
          refine wpOp_step (i := 10) rfl (fun K hK => ?_)
          have HK : Shut (∀ a w, _ → K a w) := hK
          clear hK ho
          have HS := Lib.hid hs
          have HM := Lib.hid hm
          have HI := Lib.hid hi
          clear hs ha hm hi
          go_simp
          exact HK.out _ _ ⟨upd e 10 true, upd (upd t 98 _) 99 _, rfl, rfl, by rw [upd_self H9.out]; exact HS.out.put ok (i := 10) rfl, (by exact HM.out.mark (by decide) (by decide))⟩
        | 11, ho, hi, ha =>
          obtain rfl : _ = o := Option.some.inj ho
          have hi : e 11 = false := hi
          have T10 : t 99 = .pointer (some ⟨g, k * 5 + 3, none⟩) := hs.val 10 rfl (ha { on := 10, ground := .data } (by simp) rfl)
          have H10 := Lib.hid T10
          have q_ : wr.cell? ⟨g, k * 5 + 3, none⟩ = some (.int .i64 (x.line : Nat)) := hm.cell HT.out.2.2.2.1 (by omega) (by omega)
          refine wpOp_step (i := 11) rfl (fun K hK => ?_)
          have HK : Shut (∀ a w, _ → K a w) := hK
          clear hK ho
          have HS := Lib.hid hs
          have HM := Lib.hid hm
          have HI := Lib.hid hi
          clear hs ha hm hi
          go_simp
          exact HK.out _ _ ⟨upd e 11 true, upd (upd t 99 _) 100 _, rfl, rfl, by rw [upd_self H10.out]; exact HS.out.put ok (i := 11) rfl, (by exact HM.out.mark (by decide) (by decide))⟩
        | 12, ho, hi, ha =>
          obtain rfl : _ = o := Option.some.inj ho
          have hi : e 12 = false := hi
          refine wpOp_step (i := 12) rfl (fun K hK => ?_)
          have HK : Shut (∀ a w, _ → K a w) := hK
          clear hK ho
          have HS := Lib.hid hs
          have HM := Lib.hid hm
          have HI := Lib.hid hi
          clear hs ha hm hi
          go_simp
          exact HK.out _ _ ⟨upd e 12 true, upd t 101 _, rfl, rfl, by exact HS.out.put ok (i := 12) rfl, (by exact HM.out.mark (by decide) (by decide))⟩
        | 13, ho, hi, ha =>
          obtain rfl : _ = o := Option.some.inj ho
          have hi : e 13 = false := hi
          have T12 : t 101 = .pointer (some ⟨sb, 0, none⟩) := hs.val 12 rfl (ha { on := 12, ground := .data } (by simp) rfl)
          have H12 := Lib.hid T12
          refine wpOp_step (i := 13) rfl (fun K hK => ?_)
          have HK : Shut (∀ a w, _ → K a w) := hK
          clear hK ho
          have HS := Lib.hid hs
          have HM := Lib.hid hm
          have HI := Lib.hid hi
          clear hs ha hm hi
          go_simp
          exact HK.out _ _ ⟨upd e 13 true, upd (upd t 101 _) 102 _, rfl, rfl, by rw [upd_self H12.out]; exact HS.out.put ok (i := 13) rfl, (by exact HM.out.mark (by decide) (by decide))⟩
        | 14, ho, hi, ha =>
          obtain rfl : _ = o := Option.some.inj ho
          have hi : e 14 = false := hi
          have T13 : t 102 = .pointer (some ⟨sb, 0, none⟩) := hs.val 13 rfl (ha { on := 13, ground := .data } (by simp) rfl)
          have H13 := Lib.hid T13
          refine wpOp_step (i := 14) rfl (fun K hK => ?_)
          have HK : Shut (∀ a w, _ → K a w) := hK
          clear hK ho
          have HS := Lib.hid hs
          have HM := Lib.hid hm
          have HI := Lib.hid hi
          clear hs ha hm hi
          go_simp
          exact HK.out _ _ ⟨upd e 14 true, upd (upd t 102 _) 103 _, rfl, rfl, by rw [upd_self H13.out]; exact HS.out.put ok (i := 14) rfl, (by exact HM.out.mark (by decide) (by decide))⟩
        | 15, ho, hi, ha =>
          obtain rfl : _ = o := Option.some.inj ho
          have hi : e 15 = false := hi
          have T14 : t 103 = .pointer (some ⟨sb, 0, none⟩) := hs.val 14 rfl (ha { on := 14, ground := .data } (by simp) rfl)
          have H14 := Lib.hid T14
          have q_ : wr.cell? ⟨sb, 0, none⟩ = some (.slice (some ⟨g, 0, none⟩) L.length C) := hm.cell HC.out.1 (by omega) (by omega)
          refine wpOp_step (i := 15) rfl (fun K hK => ?_)
          have HK : Shut (∀ a w, _ → K a w) := hK
          clear hK ho
          have HS := Lib.hid hs
          have HM := Lib.hid hm
          have HI := Lib.hid hi
          clear hs ha hm hi
          go_simp
          exact HK.out _ _ ⟨upd e 15 true, upd (upd t 103 _) 104 _, rfl, rfl, by rw [upd_self H14.out]; exact HS.out.put ok (i := 15) rfl, (by exact HM.out.mark (by decide) (by decide))⟩
        | 16, ho, hi, ha =>
          obtain rfl : _ = o := Option.some.inj ho
          have hi : e 16 = false := hi
          refine wpOp_step (i := 16) rfl (fun K hK => ?_)
          have HK : Shut (∀ a w, _ → K a w) := hK
          clear hK ho
          have HS := Lib.hid hs
          have HM := Lib.hid hm
          have HI := Lib.hid hi
          clear hs ha hm hi
          go_simp
          exact HK.out _ _ ⟨upd e 16 true, upd t 105 _, rfl, rfl, by exact HS.out.put ok (i := 16) rfl, (by exact HM.out.mark (by decide) (by decide))⟩
        | 17, ho, hi, ha =>
          obtain rfl : _ = o := Option.some.inj ho
          have hi : e 17 = false := hi
          have T16 : t 105 = .pointer (some ⟨sb, 0, none⟩) := hs.val 16 rfl (ha { on := 16, ground := .data } (by simp) rfl)
          have H16 := Lib.hid T16
          refine wpOp_step (i := 17) rfl (fun K hK => ?_)
          have HK : Shut (∀ a w, _ → K a w) := hK
          clear hK ho
          have HS := Lib.hid hs
          have HM := Lib.hid hm
          have HI := Lib.hid hi
          clear hs ha hm hi
          go_simp
          exact HK.out _ _ ⟨upd e 17 true, upd (upd t 105 _) 106 _, rfl, rfl, by rw [upd_self H16.out]; exact HS.out.put ok (i := 17) rfl, (by exact HM.out.mark (by decide) (by decide))⟩
        | 18, ho, hi, ha =>
          obtain rfl : _ = o := Option.some.inj ho
          have hi : e 18 = false := hi
          have T17 : t 106 = .pointer (some ⟨sb, 0, none⟩) := hs.val 17 rfl (ha { on := 17, ground := .data } (by simp) rfl)
          have H17 := Lib.hid T17
          refine wpOp_step (i := 18) rfl (fun K hK => ?_)
          have HK : Shut (∀ a w, _ → K a w) := hK
          clear hK ho
          have HS := Lib.hid hs
          have HM := Lib.hid hm
          have HI := Lib.hid hi
          clear hs ha hm hi
          go_simp
          exact HK.out _ _ ⟨upd e 18 true, upd (upd t 106 _) 107 _, rfl, rfl, by rw [upd_self H17.out]; exact HS.out.put ok (i := 18) rfl, (by exact HM.out.mark (by decide) (by decide))⟩
        | 19, ho, hi, ha =>
          obtain rfl : _ = o := Option.some.inj ho
          have hi : e 19 = false := hi
          have T18 : t 107 = .pointer (some ⟨sb, 1, none⟩) := hs.val 18 rfl (ha { on := 18, ground := .data } (by simp) rfl)
          have H18 := Lib.hid T18
          have q_ : wr.cell? ⟨sb, 1, none⟩ = some (.int .i64 (k : Nat)) := hm.cell HC.out.2.1 (by omega) (by omega)
          refine wpOp_step (i := 19) rfl (fun K hK => ?_)
          have HK : Shut (∀ a w, _ → K a w) := hK
          clear hK ho
          have HS := Lib.hid hs
          have HM := Lib.hid hm
          have HI := Lib.hid hi
          clear hs ha hm hi
          go_simp
          exact HK.out _ _ ⟨upd e 19 true, upd (upd t 107 _) 108 _, rfl, rfl, by rw [upd_self H18.out]; exact HS.out.put ok (i := 19) rfl, (by exact HM.out.mark (by decide) (by decide))⟩
        | 20, ho, hi, ha =>
          obtain rfl : _ = o := Option.some.inj ho
          have hi : e 20 = false := hi
          have T15 : t 104 = .slice (some ⟨g, 0, none⟩) L.length C := hs.val 15 rfl (ha { on := 15, ground := .data } (by simp) rfl)
          have H15 := Lib.hid T15
          have T19 : t 108 = .int .i64 (k : Nat) := hs.val 19 rfl (ha { on := 19, ground := .data } (by simp) rfl)
          have H19 := Lib.hid T19
          refine wpOp_step (i := 20) rfl (fun K hK => ?_)
          have HK : Shut (∀ a w, _ → K a w) := hK
          clear hK ho
          have HS := Lib.hid hs
          have HM := Lib.hid hm
          have HI := Lib.hid hi
          clear hs ha hm hi
          go_simp
          exact HK.out _ _ ⟨upd e 20 true, upd (upd (upd t 104 _) 108 _) 109 _, rfl, rfl, by rw [upd_self H15.out, upd_self H19.out]; exact HS.out.put ok (i := 20) rfl, (by exact HM.out.mark (by decide) (by decide))⟩
        | 21, ho, hi, ha =>
          obtain rfl : _ = o := Option.some.inj ho
          have hi : e 21 = false := hi
          have T20 : t 109 = .pointer (some ⟨g, k * 5, none⟩) := hs.val 20 rfl (ha { on := 20, ground := .data } (by simp) rfl)
          have H20 := Lib.hid T20
          refine wpOp_step (i := 21) rfl (fun K hK => ?_)
          have HK : Shut (∀ a w, _ → K a w) := hK
          clear hK ho
          have HS := Lib.hid hs
          have HM := Lib.hid hm
          have HI := Lib.hid hi
          clear hs ha hm hi
          go_simp
          exact HK.out _ _ ⟨upd e 21 true, upd (upd t 109 _) 110 _, rfl, rfl, by rw [upd_self H20.out]; exact HS.out.put ok (i := 21) rfl, (by exact HM.out.mark (by decide) (by decide))⟩
        | 22, ho, hi, ha =>
          obtain rfl : _ = o := Option.some.inj ho
          have hi : e 22 = false := hi
          have T21 : t 110 = .pointer (some ⟨g, k * 5 + 4, none⟩) := hs.val 21 rfl (ha { on := 21, ground := .data } (by simp) rfl)
          have H21 := Lib.hid T21
          have q_ : wr.cell? ⟨g, k * 5 + 4, none⟩ = some (.int .i64 (x.col : Nat)) := hm.cell HT.out.2.2.2.2 (by omega) (by omega)
          refine wpOp_step (i := 22) rfl (fun K hK => ?_)
          have HK : Shut (∀ a w, _ → K a w) := hK
          clear hK ho
          have HS := Lib.hid hs
          have HM := Lib.hid hm
          have HI := Lib.hid hi
          clear hs ha hm hi
          go_simp
          exact HK.out _ _ ⟨upd e 22 true, upd (upd t 110 _) 111 _, rfl, rfl, by rw [upd_self H21.out]; exact HS.out.put ok (i := 22) rfl, (by exact HM.out.mark (by decide) (by decide))⟩
        | 23, ho, hi, ha =>
          obtain rfl : _ = o := Option.some.inj ho
          have hi : e 23 = false := hi
          have T11 : t 100 = .int .i64 (x.line : Nat) := hs.val 11 rfl (ha { on := 11, ground := .data } (by simp) rfl)
          have H11 := Lib.hid T11
          have T22 : t 111 = .int .i64 (x.col : Nat) := hs.val 22 rfl (ha { on := 22, ground := .data } (by simp) rfl)
          have H22 := Lib.hid T22
          refine wpOp_step (i := 23) rfl (fun K hK => ?_)
          have HK : Shut (∀ a w, _ → K a w) := hK
          clear hK ho
          have HS := Lib.hid hs
          have HM := Lib.hid hm
          have HI := Lib.hid hi
          clear hs ha hm hi
          go_simp
          exact HK.out _ _ ⟨upd e 23 true, upd (upd (upd t 100 _) 111 _) 112 _, rfl, rfl, by rw [upd_self H11.out, upd_self H22.out]; exact HS.out.put ok (i := 23) rfl, (by exact HM.out.mark (by decide) (by decide))⟩
        | 24, ho, hi, ha =>
          obtain rfl : _ = o := Option.some.inj ho
          have hi : e 24 = false := hi
          refine wpOp_step (i := 24) rfl (fun K hK => ?_)
          have HK : Shut (∀ a w, _ → K a w) := hK
          clear hK ho
          have HS := Lib.hid hs
          have HM := Lib.hid hm
          have HI := Lib.hid hi
          clear hs ha hm hi
          go_simp
          exact HK.out _ _ ⟨upd e 24 true, upd t 113 _, rfl, rfl, by exact HS.out.put ok (i := 24) rfl, (by exact HM.out.mark (by decide) (by decide))⟩
        | 25, ho, hi, ha =>
          obtain rfl : _ = o := Option.some.inj ho
          have hi : e 25 = false := hi
          have T24 : t 113 = .pointer (some ⟨sb, 0, none⟩) := hs.val 24 rfl (ha { on := 24, ground := .data } (by simp) rfl)
          have H24 := Lib.hid T24
          refine wpOp_step (i := 25) rfl (fun K hK => ?_)
          have HK : Shut (∀ a w, _ → K a w) := hK
          clear hK ho
          have HS := Lib.hid hs
          have HM := Lib.hid hm
          have HI := Lib.hid hi
          clear hs ha hm hi
          go_simp
          exact HK.out _ _ ⟨upd e 25 true, upd (upd t 113 _) 114 _, rfl, rfl, by rw [upd_self H24.out]; exact HS.out.put ok (i := 25) rfl, (by exact HM.out.mark (by decide) (by decide))⟩
        | 26, ho, hi, ha =>
          obtain rfl : _ = o := Option.some.inj ho
          have hi : e 26 = false := hi
          have T25 : t 114 = .pointer (some ⟨sb, 0, none⟩) := hs.val 25 rfl (ha { on := 25, ground := .data } (by simp) rfl)
          have H25 := Lib.hid T25
          refine wpOp_step (i := 26) rfl (fun K hK => ?_)
          have HK : Shut (∀ a w, _ → K a w) := hK
          clear hK ho
          have HS := Lib.hid hs
          have HM := Lib.hid hm
          have HI := Lib.hid hi
          clear hs ha hm hi
          go_simp
          exact HK.out _ _ ⟨upd e 26 true, upd (upd t 114 _) 115 _, rfl, rfl, by rw [upd_self H25.out]; exact HS.out.put ok (i := 26) rfl, (by exact HM.out.mark (by decide) (by decide))⟩
        | 27, ho, hi, ha =>
          obtain rfl : _ = o := Option.some.inj ho
          have hi : e 27 = false := hi
          have T26 : t 115 = .pointer (some ⟨sb, 2, none⟩) := hs.val 26 rfl (ha { on := 26, ground := .data } (by simp) rfl)
          have H26 := Lib.hid T26
          have q_ : wr.cell? ⟨sb, 2, none⟩ = some (.int .i64 (ec : Nat)) := hm.cell HC.out.2.2.1 (by omega) (by omega)
          refine wpOp_step (i := 27) rfl (fun K hK => ?_)
          have HK : Shut (∀ a w, _ → K a w) := hK
          clear hK ho
          have HS := Lib.hid hs
          have HM := Lib.hid hm
          have HI := Lib.hid hi
          clear hs ha hm hi
          go_simp
          exact HK.out _ _ ⟨upd e 27 true, upd (upd t 115 _) 116 _, rfl, rfl, by rw [upd_self H26.out]; exact HS.out.put ok (i := 27) rfl, (by exact HM.out.mark (by decide) (by decide))⟩
        | 28, ho, hi, ha =>
          obtain rfl : _ = o := Option.some.inj ho
          have hi : e 28 = false := hi
          have T0 : t 89 = .agg #[.int .i64 0, .int .i64 0, .slice none 0 0, .slice none 0 0, .int .i64 0, .slice none 0 0] := hs.val 0 rfl (ha { on := 0, ground := .data } (by simp) rfl)
          have H0 := Lib.hid T0
          have B_ : IBlk w.heap.size 36 (.int .i64 0) (.int .i64 0) (.slice none 0 0) (.slice none 0 0) (.int .i64 0) (.slice none 0 0) wr := hm.res hi HF.out.res
          obtain ⟨z0_, z1_, z2_, z3_, z4_, z5_⟩ := B_.box
          have f0_ := B_.free 0
          have f1_ := B_.free 1
          have f2_ := B_.free 2
          have f3_ := B_.free 3
          have f4_ := B_.free 4
          have f5_ := B_.free 5
          clear B_
          refine wpOp_step (i := 28) rfl (fun K hK => ?_)
          have HK : Shut (∀ a w, _ → K a w) := hK
          clear hK ho
          have HS := Lib.hid hs
          have HM := Lib.hid hm
          have HI := Lib.hid hi
          clear hs ha hm hi
          go_simp
          exact HK.out _ _ ⟨upd e 28 true, (upd t 89 _), rfl, rfl, by rw [upd_self H0.out]; exact HS.out.skip (i := 28) rfl, (by exact HM.out.st1 HI.out)⟩
        | 29, ho, hi, ha =>
          obtain rfl : _ = o := Option.some.inj ho
          have hi : e 29 = false := hi
          have T23 : t 112 = .agg #[.int .i64 (x.line : Nat), .int .i64 (x.col : Nat)] := hs.val 23 rfl (ha { on := 23, ground := .data } (by simp) rfl)
          have H23 := Lib.hid T23
          have DP : Hid (e 28 = true) := ha { on := 28, ground := .chain } (by simp) rfl
          have R_ := hm.row1 hi HF.out.pos (show w.heap.size + 1 ≠ w.heap.size by omega)
          have y0_ : wr.cell? ⟨w.heap.size + 1, 0, none⟩ = some (.int .i64 0) := by unfold World.cell?; simp only [R_]; rfl
          have y1_ : wr.cell? ⟨w.heap.size + 1, 1, none⟩ = some (.int .i64 0) := by unfold World.cell?; simp only [R_]; rfl
          have g0_ : wr.frozen? ⟨w.heap.size + 1, 0, none⟩ = false := frozen_of_row wr _ _ _ _ R_
          have g1_ : wr.frozen? ⟨w.heap.size + 1, 1, none⟩ = false := frozen_of_row wr _ _ _ _ R_
          clear R_
          refine wpOp_step (i := 29) rfl (fun K hK => ?_)
          have HK : Shut (∀ a w, _ → K a w) := hK
          clear hK ho
          have HS := Lib.hid hs
          have HM := Lib.hid hm
          have HI := Lib.hid hi
          clear hs ha hm hi
          go_simp
          exact HK.out _ _ ⟨upd e 29 true, (upd t 112 _), rfl, rfl, by rw [upd_self H23.out]; exact HS.out.skip (i := 29) rfl, (by exact HM.out.st2 DP.out HI.out)⟩
        | 30, ho, hi, ha =>
          obtain rfl : _ = o := Option.some.inj ho
          have hi : e 30 = false := hi
          have T27 : t 116 = .int .i64 (ec : Nat) := hs.val 27 rfl (ha { on := 27, ground := .data } (by simp) rfl)
          have H27 := Lib.hid T27
          refine wpOp_step (i := 30) rfl (fun K hK => ?_)
          have HK : Shut (∀ a w, _ → K a w) := hK
          clear hK ho
          have HS := Lib.hid hs
          have HM := Lib.hid hm
          have HI := Lib.hid hi
          clear hs ha hm hi
          go_simp
          exact HK.out _ _ ⟨upd e 30 true, upd (upd t 116 _) 4 _, rfl, rfl, by rw [upd_self H27.out]; exact HS.out.put ok (i := 30) rfl, (by exact HM.out.mark (by decide) (by decide))⟩
        | k + 31, ho, hi, ha => simp at ho
      case done =>
        rintro lq_ aq_ wr ⟨e, t, rfl, rfl, hs, hm⟩ hr
        have hd := ready_done hr rfl (by decide +kernel)
        have hT4 : t 4 = .int .i64 (ec : Nat) := hs.val 30 rfl (hd 30 (by decide))
        obtain ⟨z1', ⟨e6, e7⟩, z3', z4'⟩ := hm.fin (hd 29 (by decide)) HF.out
        obtain ⟨e0, e1, e2, e3, e4, e5⟩ := z1'.box
        clear z1' hd hr hs hm
        go_wp2
        refine bodyPost_ret (v := .tuple #[.agg #[.int .i64 0, .int .i64 0, .slice none 0 0, .slice none 0 0, .int .i64 0, .slice none 0 0], .agg #[.int .i64 (x.line : Nat), .int .i64 (x.col : Nat)], .int .i64 (ec : Nat)]) (by simp [results, Tryz.results13, go_sem, e0, e1, e2, e3, e4, e5, e6, e7, hT4]) rfl ?_
        rw [hps.out]
        exact ⟨_, rfl, z3', z4'⟩
  · have hkn : ¬ kd = 3 := by omega
    have hk3 : (kd == 3) = false := by simpa using hkn
    clear hx hkd
    go_quiet (fail)
    generalize hWB : WM.drewN _ = WQ
    have FB0 : Fr sb g C L (k, ec) w WQ := by rw [← hWB]; exact FR.out.next (below_drewN (Below.refl _ _) _)
    have MB0 : Mid L w xb (k, ec) WQ := by rw [← hWB]; exact MD.out.next (below_drewN (Below.refl _ _) _)
    clear FR MD hWB c0 c1 c2 t0
    obtain ⟨E, hE1, hE2, hWR⟩ : ∃ E, nF 4 (k, ec) = (k, E) ∧ E ≠ 0 ∧ wholeR L = .no k E := by
      obtain ⟨ax, bbx, A0x, m0x, C0x, A1x, m1x, C1x, zzx, A2x, m2x, C2x, _, hrel⟩ := MB0
      rcases hrel with ⟨he0, I, hRi, hIn⟩ | ⟨he0, hRi⟩
      · have he0 : ec = 0 := he0
        subst he0
        refine ⟨4, rfl, by omega, ?_⟩
        rw [e1, hRi]
        show (tokR L 3 k).nx _ = _
        unfold tokR
        rw [HX0.out]
        simp only
        rw [if_neg hc]
        rfl
      · have he0 : ec ≠ 0 := he0
        exact ⟨ec, if_neg he0, he0, by rw [e1, hRi]; rfl⟩
    have FLE := FL4 (k, ec) _ FB0.st
    rw [hE1] at FLE
    have HF0 := Lib.hid FB0
    clear MB0 FB0 e1 hE1 hc FL4
    go_wp2_with fail
    with_reducible refine FLE.mono ?_
    rintro r WB ⟨rfl, hst, kb⟩
    have FB := Lib.hid (HF0.out.kb kb hst)
    have he2 : ¬ (E : Int) = 0 := by omega
    clear HF0 hst kb FLE hk3 hkn
    have hx := HX0.out
    have hps := Lib.hid (show psOf L (wholeR L) = ⟨zIn, x.line, x.col, E⟩ by rw [hWR]; simp [psOf, hx])
    have hF0 : Fr sb g C L (k, E) w WB.drew := FB.out.next (Below.refl _ _).drew
    obtain ⟨W0, hW0⟩ : ∃ q, q = WB.drew := ⟨_, rfl⟩
    rw [← hW0] at hF0
    have HY : Hid (RM w.heap.size (x.line : Nat) (x.col : Nat) W0 (fun _ => false) WB.drew) := by rw [← hW0]; exact RM.start _ _ _ _
    obtain ⟨c0, c1, c2, _, _⟩ := FB.out.st.cells
    have hs := FB.out.st.size
    have hgl := FB.out.st.toks.1
    simp only at c1 c2
    have HF := Lib.hid hF0
    have HT := Lib.hid (hF0.st.toks.get hx)
    have HC := Lib.hid hF0.st.cells
    have hse := FB.out.sep
    clear FB hWR hx hF0 hW0
    go_wp2
    have he3 : ((E : Int) != 0) = true := by simpa using he2
    rw [he3]
    clear he3
    have ok : (planW0C sb g k L.length C x.line x.col E).ok = true := rfl
    refine region_inv (Inv := fun lq_ aq_ wr => ∃ (e : Nat → Bool) (t : Nat → Value), lq_ = #[e 0, e 1, e 2, e 3, e 4, e 5, e 6, e 7, e 8, e 9, e 10, e 11, e 12, e 13, e 14, e 15, e 16, e 17, e 18, e 19, e 20, e 21, e 22, e 23, e 24, e 25, e 26, e 27, e 28, e 29, e 30] ∧ aq_ = ⟨#[.string s, undef, .pointer (some ⟨w.heap.size, 0, none⟩), .pointer (some ⟨w.heap.size + 1, 0, none⟩), t 4, .pointer (some ⟨w.heap.size + 1 + 1, 0, none⟩), .slice (some ⟨g, 0, none⟩) L.length C, .pointer (some ⟨w3.heap.size, 0, none⟩), .int .i64 0, .pointer (some ⟨sb, 0, none⟩), .bool true, .bool false, .bool false, .bool false, .pointer (some ⟨xb, 0, none⟩), .agg #[.int .i64 0, .int .i64 0, .slice none 0 0, .slice none 0 0, .int .i64 0, .slice none 0 0], .tuple #[.slice (some ⟨g, 0, none⟩) L.length C, .agg #[.int .i64 (pl1 : Int), .int .i64 (pc1 : Int)], .int .i64 0], .string s, .tuple #[.slice (some ⟨g, 0, none⟩) L.length C, .agg #[.int .i64 (pl1 : Int), .int .i64 (pc1 : Int)], .int .i64 0], .slice (some ⟨g, 0, none⟩) L.length C, .agg #[.int .i64 (pl1 : Int), .int .i64 (pc1 : Int)], .int .i64 0, .int .i64 0, .bool false, undef, undef, undef, .slice (some ⟨g, 0, none⟩) L.length C, .agg #[.slice (some ⟨g, 0, none⟩) L.length C, .int .i64 0, .int .i64 0], .pointer (some ⟨sb, 0, none⟩), .pointer (some ⟨sb, 0, none⟩), .bool true, .pointer (some ⟨sb, 0, none⟩), .bool false, .pointer (some ⟨sb, 0, none⟩), .bool false, .pointer (some ⟨sb, 0, none⟩), .bool false, .agg #[.int .i64 0, .int .i64 0, .slice none 0 0, .slice none 0 0, .int .i64 0, .slice none 0 0], .bool true, .bool false, .bool false, undef, undef, .bool false, .bool false, undef, undef, .bool false, .bool false, undef, undef, .bool false, undef, undef, .pointer (some ⟨sb, 0, none⟩), .pointer (some ⟨sb, 0, none⟩), .pointer (some ⟨sb, 1, none⟩), .bool true, .pointer (some ⟨sb, 0, none⟩), .agg #[.int .i64 a, .int .i64 bb, .slice A0 m0 C0, .slice A1 m1 C1, .int .i64 zz, .slice A2 m2 C2], .bool false, undef, undef, .bool false, undef, undef, .bool false, undef, undef, .pointer (some ⟨sb, 0, none⟩), .pointer (some ⟨sb, 0, none⟩), .pointer (some ⟨sb, 0, none⟩), .slice (some ⟨g, 0, none⟩) L.length C, .pointer (some ⟨sb, 0, none⟩), .pointer (some ⟨sb, 0, none⟩), .pointer (some ⟨sb, 1, none⟩), .int .i64 (k : Int), .pointer (some ⟨g, k * 5, none⟩), .pointer (some ⟨g, k * 5, none⟩), .int .i64 kd, .bool true, .pointer (some ⟨sb, 0, none⟩), .tuple #[], .pointer (some ⟨sb, 0, none⟩), .pointer (some ⟨sb, 0, none⟩), .pointer (some ⟨sb, 2, none⟩), .int .i64 (E : Int), .bool true, t 89, t 90, t 91, t 92, t 93, t 94, t 95, t 96, t 97, t 98, t 99, t 100, t 101, t 102, t 103, t 104, t 105, t 106, t 107, t 108, t 109, t 110, t 111, t 112, t 113, t 114, t 115, t 116, undef, undef], []⟩ ∧ Vals (planW0C sb g k L.length C x.line x.col E) e t ∧ RM w.heap.size (x.line : Nat) (x.col : Nat) W0 e wr) (by kernel_rfl) ?step ?start ?done
    case start => exact ⟨fun _ => false, fun j => if j = 4 then .int .i64 0 else undef, rfl, rfl, Vals.start _ _, HY.out⟩
    case step =>
      rintro lq_ aq_ wr ⟨e, t, rfl, rfl, hs, hm⟩ q_ o ho hi ha
      match q_, ho, hi, ha with
      | 0, ho, hi, ha =>
        obtain rfl : _ = o := Option.some.inj ho
        have hi : e 0 = false := hi
        have B_ : IBlk (w.heap.size + 1 + 1) 36 (.int .i64 0) (.int .i64 0) (.slice none 0 0) (.slice none 0 0) (.int .i64 0) (.slice none 0 0) wr := hm.row HF.out.non (by omega) (by omega)
        obtain ⟨n0_, n1_, n2_, n3_, n4_, n5_⟩ := B_.box
        clear B_
        refine wpOp_step (i := 0) rfl (fun K hK => ?_)
        have HK : Shut (∀ a w, _ → K a w) := hK
        clear hK ho
        have HS := Lib.hid hs
        have HM := Lib.hid hm
        have HI := Lib.hid hi
        clear hs ha hm hi
        go_simp
        exact HK.out _ _ ⟨upd e 0 true, upd t 89 _, rfl, rfl, by exact HS.out.put ok (i := 0) rfl, (by exact HM.out.mark (by decide) (by decide))⟩
      | 1, ho, hi, ha =>
        obtain rfl : _ = o := Option.some.inj ho
        have hi : e 1 = false := hi
        refine wpOp_step (i := 1) rfl (fun K hK => ?_)
        have HK : Shut (∀ a w, _ → K a w) := hK
        clear hK ho
        have HS := Lib.hid hs
        have HM := Lib.hid hm
        have HI := Lib.hid hi
        clear hs ha hm hi
        go_simp
        exact HK.out _ _ ⟨upd e 1 true, upd t 90 _, rfl, rfl, by exact HS.out.put ok (i := 1) rfl, (by exact HM.out.mark (by decide) (by decide))⟩
      | 2, ho, hi, ha =>
        obtain rfl : _ = o := Option.some.inj ho
        have hi : e 2 = false := hi
        have T1 : t 90 = .pointer (some ⟨sb, 0, none⟩) := hs.val 1 rfl (ha { on := 1, ground := .data } (by simp) rfl)
        have H1 := Lib.hid T1
        refine wpOp_step (i := 2) rfl (fun K hK => ?_)
        have HK : Shut (∀ a w, _ → K a w) := hK
        clear hK ho
        have HS := Lib.hid hs
        have HM := Lib.hid hm
        have HI := Lib.hid hi
        clear hs ha hm hi
        go_simp
        exact HK.out _ _ ⟨upd e 2 true, upd (upd t 90 _) 91 _, rfl, rfl, by rw [upd_self H1.out]; exact HS.out.put ok (i := 2) rfl, (by exact HM.out.mark (by decide) (by decide))⟩
      | 3, ho, hi, ha =>
        obtain rfl : _ = o := Option.some.inj ho
        have hi : e 3 = false := hi
        have T2 : t 91 = .pointer (some ⟨sb, 0, none⟩) := hs.val 2 rfl (ha { on := 2, ground := .data } (by simp) rfl)
        have H2 := Lib.hid T2
        refine wpOp_step (i := 3) rfl (fun K hK => ?_)
        have HK : Shut (∀ a w, _ → K a w) := hK
        clear hK ho
        have HS := Lib.hid hs
        have HM := Lib.hid hm
        have HI := Lib.hid hi
        clear hs ha hm hi
        go_simp
        exact HK.out _ _ ⟨upd e 3 true, upd (upd t 91 _) 92 _, rfl, rfl, by rw [upd_self H2.out]; exact HS.out.put ok (i := 3) rfl, (by exact HM.out.mark (by decide) (by decide))⟩
      | 4, ho, hi, ha =>
        obtain rfl : _ = o := Option.some.inj ho
        have hi : e 4 = false := hi
        have T3 : t 92 = .pointer (some ⟨sb, 0, none⟩) := hs.val 3 rfl (ha { on := 3, ground := .data } (by simp) rfl)
        have H3 := Lib.hid T3
        have q_ : wr.cell? ⟨sb, 0, none⟩ = some (.slice (some ⟨g, 0, none⟩) L.length C) := hm.cell HC.out.1 (by omega) (by omega)
        refine wpOp_step (i := 4) rfl (fun K hK => ?_)
        have HK : Shut (∀ a w, _ → K a w) := hK
        clear hK ho
        have HS := Lib.hid hs
        have HM := Lib.hid hm
        have HI := Lib.hid hi
        clear hs ha hm hi
        go_simp
        exact HK.out _ _ ⟨upd e 4 true, upd (upd t 92 _) 93 _, rfl, rfl, by rw [upd_self H3.out]; exact HS.out.put ok (i := 4) rfl, (by exact HM.out.mark (by decide) (by decide))⟩
      | 5, ho, hi, ha =>
        obtain rfl : _ = o := Option.some.inj ho
        have hi : e 5 = false := hi
        refine wpOp_step (i := 5) rfl (fun K hK => ?_)
        have HK : Shut (∀ a w, _ → K a w) := hK
        clear hK ho
        have HS := Lib.hid hs
        have HM := Lib.hid hm
        have HI := Lib.hid hi
        clear hs ha hm hi
        go_simp
        exact HK.out _ _ ⟨upd e 5 true, upd t 94 _, rfl, rfl, by exact HS.out.put ok (i := 5) rfl, (by exact HM.out.mark (by decide) (by decide))⟩
      | 6, ho, hi, ha =>
        obtain rfl : _ = o := Option.some.inj ho
        have hi : e 6 = false := hi
        have T5 : t 94 = .pointer (some ⟨sb, 0, none⟩) := hs.val 5 rfl (ha { on := 5, ground := .data } (by simp) rfl)
        have H5 := Lib.hid T5
        refine wpOp_step (i := 6) rfl (fun K hK => ?_)
        have HK : Shut (∀ a w, _ → K a w) := hK
        clear hK ho
        have HS := Lib.hid hs
        have HM := Lib.hid hm
        have HI := Lib.hid hi
        clear hs ha hm hi
        go_simp
        exact HK.out _ _ ⟨upd e 6 true, upd (upd t 94 _) 95 _, rfl, rfl, by rw [upd_self H5.out]; exact HS.out.put ok (i := 6) rfl, (by exact HM.out.mark (by decide) (by decide))⟩
      | 7, ho, hi, ha =>
        obtain rfl : _ = o := Option.some.inj ho
        have hi : e 7 = false := hi
        have T6 : t 95 = .pointer (some ⟨sb, 0, none⟩) := hs.val 6 rfl (ha { on := 6, ground := .data } (by simp) rfl)
        have H6 := Lib.hid T6
        refine wpOp_step (i := 7) rfl (fun K hK => ?_)
        have HK : Shut (∀ a w, _ → K a w) := hK
        clear hK ho
        have HS := Lib.hid hs
        have HM := Lib.hid hm
        have HI := Lib.hid hi
        clear hs ha hm hi
        go_simp
        exact HK.out _ _ ⟨upd e 7 true, upd (upd t 95 _) 96 _, rfl, rfl, by rw [upd_self H6.out]; exact HS.out.put ok (i := 7) rfl, (by exact HM.out.mark (by decide) (by decide))⟩
      | 8, ho, hi, ha =>
        obtain rfl : _ = o := Option.some.inj ho
        have hi : e 8 = false := hi
        have T7 : t 96 = .pointer (some ⟨sb, 1, none⟩) := hs.val 7 rfl (ha { on := 7, ground := .data } (by simp) rfl)
        have H7 := Lib.hid T7
        have q_ : wr.cell? ⟨sb, 1, none⟩ = some (.int .i64 (k : Nat)) := hm.cell HC.out.2.1 (by omega) (by omega)
        refine wpOp_step (i := 8) rfl (fun K hK => ?_)
        have HK : Shut (∀ a w, _ → K a w) := hK
        clear hK ho
        have HS := Lib.hid hs
        have HM := Lib.hid hm
        have HI := Lib.hid hi
        clear hs ha hm hi
        go_simp
        exact HK.out _ _ ⟨upd e 8 true, upd (upd t 96 _) 97 _, rfl, rfl, by rw [upd_self H7.out]; exact HS.out.put ok (i := 8) rfl, (by exact HM.out.mark (by decide) (by decide))⟩
      | 9, ho, hi, ha =>
        obtain rfl : _ = o := Option.some.inj ho
        have hi : e 9 = false := hi
        have T4 : t 93 = .slice (some ⟨g, 0, none⟩) L.length C := hs.val 4 rfl (ha { on := 4, ground := .data } (by simp) rfl)
        have H4 := Lib.hid T4
        have T8 : t 97 = .int .i64 (k : Nat) := hs.val 8 rfl (ha { on := 8, ground := .data } (by simp) rfl)
        have H8 := Lib.hid T8
        refine wpOp_step (i := 9) rfl (fun K hK => ?_)
        have HK : Shut (∀ a w, _ → K a w) := hK
        clear hK ho
        have HS := Lib.hid hs
        have HM := Lib.hid hm
        have HI := Lib.hid hi
        clear hs ha hm hi
        go_simp
        exact HK.out _ _ ⟨upd e 9 true, upd (upd (upd t 93 _) 97 _) 98 _, rfl, rfl, by rw [upd_self H4.out, upd_self H8.out]; exact HS.out.put ok (i := 9) rfl, (by exact HM.out.mark (by decide) (by decide))⟩
      | 10, ho, hi, ha =>
        obtain rfl : _ = o := Option.some.inj ho
        have hi : e 10 = false := hi
        have T9 : t 98 = .pointer (some ⟨g, k * 5, none⟩) := hs.val 9 rfl (ha { on := 9, ground := .data } (by simp) rfl)
        have H9 := Lib.hid T9
        refine wpOp_step (i := 10) rfl (fun K hK => ?_)
        have HK : Shut (∀ a w, _ → K a w) := hK
        clear hK ho
        have HS := Lib.hid hs
        have HM := Lib.hid hm
        have HI := Lib.hid hi
        clear hs ha hm hi
        go_simp
        exact HK.out _ _ ⟨upd e 10 true, upd (upd t 98 _) 99 _, rfl, rfl, by rw [upd_self H9.out]; exact HS.out.put ok (i := 10) rfl, (by exact HM.out.mark (by decide) (by decide))⟩
      | 11, ho, hi, ha =>
        obtain rfl : _ = o := Option.some.inj ho
        have hi : e 11 = false := hi
        have T10 : t 99 = .pointer (some ⟨g, k * 5 + 3, none⟩) := hs.val 10 rfl (ha { on := 10, ground := .data } (by simp) rfl)
        have H10 := Lib.hid T10
        have q_ : wr.cell? ⟨g, k * 5 + 3, none⟩ = some (.int .i64 (x.line : Nat)) := hm.cell HT.out.2.2.2.1 (by omega) (by omega)
        refine wpOp_step (i := 11) rfl (fun K hK => ?_)
        have HK : Shut (∀ a w, _ → K a w) := hK
        clear hK ho
        have HS := Lib.hid hs
        have HM := Lib.hid hm
        have HI := Lib.hid hi
        clear hs ha hm hi
        go_simp
        exact HK.out _ _ ⟨upd e 11 true, upd (upd t 99 _) 100 _, rfl, rfl, by rw [upd_self H10.out]; exact HS.out.put ok (i := 11) rfl, (by exact HM.out.mark (by decide) (by decide))⟩
      | 12, ho, hi, ha =>
        obtain rfl : _ = o := Option.some.inj ho
        have hi : e 12 = false := hi
        refine wpOp_step (i := 12) rfl (fun K hK => ?_)
        have HK : Shut (∀ a w, _ → K a w) := hK
        clear hK ho
        have HS := Lib.hid hs
        have HM := Lib.hid hm
        have HI := Lib.hid hi
        clear hs ha hm hi
        go_simp
        exact HK.out _ _ ⟨upd e 12 true, upd t 101 _, rfl, rfl, by exact HS.out.put ok (i := 12) rfl, (by exact HM.out.mark (by decide) (by decide))⟩
      | 13, ho, hi, ha =>
        obtain rfl : _ = o := Option.some.inj ho
        have hi : e 13 = false := hi
        have T12 : t 101 = .pointer (some ⟨sb, 0, none⟩) := hs.val 12 rfl (ha { on := 12, ground := .data } (by simp) rfl)
        have H12 := Lib.hid T12
        refine wpOp_step (i := 13) rfl (fun K hK => ?_)
        have HK : Shut (∀ a w, _ → K a w) := hK
        clear hK ho
        have HS := Lib.hid hs
        have HM := Lib.hid hm
        have HI := Lib.hid hi
        clear hs ha hm hi
        go_simp
        exact HK.out _ _ ⟨upd e 13 true, upd (upd t 101 _) 102 _, rfl, rfl, by rw [upd_self H12.out]; exact HS.out.put ok (i := 13) rfl, (by exact HM.out.mark (by decide) (by decide))⟩
      | 14, ho, hi, ha =>
        obtain rfl : _ = o := Option.some.inj ho
        have hi : e 14 = false := hi
        have T13 : t 102 = .pointer (some ⟨sb, 0, none⟩) := hs.val 13 rfl (ha { on := 13, ground := .data } (by simp) rfl)
        have H13 := Lib.hid T13
        refine wpOp_step (i := 14) rfl (fun K hK => ?_)
        have HK : Shut (∀ a w, _ → K a w) := hK
        clear hK ho
        have HS := Lib.hid hs
        have HM := Lib.hid hm
        have HI := Lib.hid hi
        clear hs ha hm hi
        go_simp
        exact HK.out _ _ ⟨upd e 14 true, upd (upd t 102 _) 103 _, rfl, rfl, by rw [upd_self H13.out]; exact HS.out.put ok (i := 14) rfl, (by exact HM.out.mark (by decide) (by decide))⟩
      | 15, ho, hi, ha =>
        obtain rfl : _ = o := Option.some.inj ho
        have hi : e 15 = false := hi
        have T14 : t 103 = .pointer (some ⟨sb, 0, none⟩) := hs.val 14 rfl (ha { on := 14, ground := .data } (by simp) rfl)
        have H14 := Lib.hid T14
        have q_ : wr.cell? ⟨sb, 0, none⟩ = some (.slice (some ⟨g, 0, none⟩) L.length C) := hm.cell HC.out.1 (by omega) (by omega)
        refine wpOp_step (i := 15) rfl (fun K hK => ?_)
        have HK : Shut (∀ a w, _ → K a w) := hK
        clear hK ho
        have HS := Lib.hid hs
        have HM := Lib.hid hm
        have HI := Lib.hid hi
        clear hs ha hm hi
        go_simp
        exact HK.out _ _ ⟨upd e 15 true, upd (upd t 103 _) 104 _, rfl, rfl, by rw [upd_self H14.out]; exact HS.out.put ok (i := 15) rfl, (by exact HM.out.mark (by decide) (by decide))⟩
      | 16, ho, hi, ha =>
        obtain rfl : _ = o := Option.some.inj ho
        have hi : e 16 = false := hi
        refine wpOp_step (i := 16) rfl (fun K hK => ?_)
        have HK : Shut (∀ a w, _ → K a w) := hK
        clear hK ho
        have HS := Lib.hid hs
        have HM := Lib.hid hm
        have HI := Lib.hid hi
        clear hs ha hm hi
        go_simp
        exact HK.out _ _ ⟨upd e 16 true, upd t 105 _, rfl, rfl, by exact HS.out.put ok (i := 16) rfl, (by exact HM.out.mark (by decide) (by decide))⟩
      | 17, ho, hi, ha =>
        obtain rfl : _ = o := Option.some.inj ho
        have hi : e 17 = false := hi
        have T16 : t 105 = .pointer (some ⟨sb, 0, none⟩) := hs.val 16 rfl (ha { on := 16, ground := .data } (by simp) rfl)
        have H16 := Lib.hid T16
        refine wpOp_step (i := 17) rfl (fun K hK => ?_)
        have HK : Shut (∀ a w, _ → K a w) := hK
        clear hK ho
        have HS := Lib.hid hs
        have HM := Lib.hid hm
        have HI := Lib.hid hi
        clear hs ha hm hi
        go_simp
        exact HK.out _ _ ⟨upd e 17 true, upd (upd t 105 _) 106 _, rfl, rfl, by rw [upd_self H16.out]; exact HS.out.put ok (i := 17) rfl, (by exact HM.out.mark (by decide) (by decide))⟩
      | 18, ho, hi, ha =>
        obtain rfl : _ = o := Option.some.inj ho
        have hi : e 18 = false := hi
        have T17 : t 106 = .pointer (some ⟨sb, 0, none⟩) := hs.val 17 rfl (ha { on := 17, ground := .data } (by simp) rfl)
        have H17 := Lib.hid T17
        refine wpOp_step (i := 18) rfl (fun K hK => ?_)
        have HK : Shut (∀ a w, _ → K a w) := hK
        clear hK ho
        have HS := Lib.hid hs
        have HM := Lib.hid hm
        have HI := Lib.hid hi
        clear hs ha hm hi
        go_simp
        exact HK.out _ _ ⟨upd e 18 true, upd (upd t 106 _) 107 _, rfl, rfl, by rw [upd_self H17.out]; exact HS.out.put ok (i := 18) rfl, (by exact HM.out.mark (by decide) (by decide))⟩
      | 19, ho, hi, ha =>
        obtain rfl : _ = o := Option.some.inj ho
        have hi : e 19 = false := hi
        have T18 : t 107 = .pointer (some ⟨sb, 1, none⟩) := hs.val 18 rfl (ha { on := 18, ground := .data } (by simp) rfl)
        have H18 := Lib.hid T18
        have q_ : wr.cell? ⟨sb, 1, none⟩ = some (.int .i64 (k : Nat)) := hm.cell HC.out.2.1 (by omega) (by omega)
        refine wpOp_step (i := 19) rfl (fun K hK => ?_)
        have HK : Shut (∀ a w, _ → K a w) := hK
        clear hK ho
        have HS := Lib.hid hs
        have HM := Lib.hid hm
        have HI := Lib.hid hi
        clear hs ha hm hi
        go_simp
        exact HK.out _ _ ⟨upd e 19 true, upd (upd t 107 _) 108 _, rfl, rfl, by rw [upd_self H18.out]; exact HS.out.put ok (i := 19) rfl, (by exact HM.out.mark (by decide) (by decide))⟩
      | 20, ho, hi, ha =>
        obtain rfl : _ = o := Option.some.inj ho
        have hi : e 20 = false := hi
        have T15 : t 104 = .slice (some ⟨g, 0, none⟩) L.length C := hs.val 15 rfl (ha { on := 15, ground := .data } (by simp) rfl)
        have H15 := Lib.hid T15
        have T19 : t 108 = .int .i64 (k : Nat) := hs.val 19 rfl (ha { on := 19, ground := .data } (by simp) rfl)
        have H19 := Lib.hid T19
        refine wpOp_step (i := 20) rfl (fun K hK => ?_)
        have HK : Shut (∀ a w, _ → K a w) := hK
        clear hK ho
        have HS := Lib.hid hs
        have HM := Lib.hid hm
        have HI := Lib.hid hi
        clear hs ha hm hi
        go_simp
        exact HK.out _ _ ⟨upd e 20 true, upd (upd (upd t 104 _) 108 _) 109 _, rfl, rfl, by rw [upd_self H15.out, upd_self H19.out]; exact HS.out.put ok (i := 20) rfl, (by exact HM.out.mark (by decide) (by decide))⟩
      | 21, ho, hi, ha =>
        obtain rfl : _ = o := Option.some.inj ho
        have hi : e 21 = false := hi
        have T20 : t 109 = .pointer (some ⟨g, k * 5, none⟩) := hs.val 20 rfl (ha { on := 20, ground := .data } (by simp) rfl)
        have H20 := Lib.hid T20
        refine wpOp_step (i := 21) rfl (fun K hK => ?_)
        have HK : Shut (∀ a w, _ → K a w) := hK
        clear hK ho
        have HS := Lib.hid hs
        have HM := Lib.hid hm
        have HI := Lib.hid hi
        clear hs ha hm hi
        go_simp
        exact HK.out _ _ ⟨upd e 21 true, upd (upd t 109 _) 110 _, rfl, rfl, by rw [upd_self H20.out]; exact HS.out.put ok (i := 21) rfl, (by exact HM.out.mark (by decide) (by decide))⟩
      | 22, ho, hi, ha =>
        obtain rfl : _ = o := Option.some.inj ho
        have hi : e 22 = false := hi
        have T21 : t 110 = .pointer (some ⟨g, k * 5 + 4, none⟩) := hs.val 21 rfl (ha { on := 21, ground := .data } (by simp) rfl)
        have H21 := Lib.hid T21
        have q_ : wr.cell? ⟨g, k * 5 + 4, none⟩ = some (.int .i64 (x.col : Nat)) := hm.cell HT.out.2.2.2.2 (by omega) (by omega)
        refine wpOp_step (i := 22) rfl (fun K hK => ?_)
        have HK : Shut (∀ a w, _ → K a w) := hK
        clear hK ho
        have HS := Lib.hid hs
        have HM := Lib.hid hm
        have HI := Lib.hid hi
        clear hs ha hm hi
        go_simp
        exact HK.out _ _ ⟨upd e 22 true, upd (upd t 110 _) 111 _, rfl, rfl, by rw [upd_self H21.out]; exact HS.out.put ok (i := 22) rfl, (by exact HM.out.mark (by decide) (by decide))⟩
      | 23, ho, hi, ha =>
        obtain rfl : _ = o := Option.some.inj ho
        have hi : e 23 = false := hi
        have T11 : t 100 = .int .i64 (x.line : Nat) := hs.val 11 rfl (ha { on := 11, ground := .data } (by simp) rfl)
        have H11 := Lib.hid T11
        have T22 : t 111 = .int .i64 (x.col : Nat) := hs.val 22 rfl (ha { on := 22, ground := .data } (by simp) rfl)
        have H22 := Lib.hid T22
        refine wpOp_step (i := 23) rfl (fun K hK => ?_)
        have HK : Shut (∀ a w, _ → K a w) := hK
        clear hK ho
        have HS := Lib.hid hs
        have HM := Lib.hid hm
        have HI := Lib.hid hi
        clear hs ha hm hi
        go_simp
        exact HK.out _ _ ⟨upd e 23 true, upd (upd (upd t 100 _) 111 _) 112 _, rfl, rfl, by rw [upd_self H11.out, upd_self H22.out]; exact HS.out.put ok (i := 23) rfl, (by exact HM.out.mark (by decide) (by decide))⟩
      | 24, ho, hi, ha =>
        obtain rfl : _ = o := Option.some.inj ho
        have hi : e 24 = false := hi
        refine wpOp_step (i := 24) rfl (fun K hK => ?_)
        have HK : Shut (∀ a w, _ → K a w) := hK
        clear hK ho
        have HS := Lib.hid hs
        have HM := Lib.hid hm
        have HI := Lib.hid hi
        clear hs ha hm hi
        go_simp
        exact HK.out _ _ ⟨upd e 24 true, upd t 113 _, rfl, rfl, by exact HS.out.put ok (i := 24) rfl, (by exact HM.out.mark (by decide) (by decide))⟩
      | 25, ho, hi, ha =>
        obtain rfl : _ = o := Option.some.inj ho
        have hi : e 25 = false := hi
        have T24 : t 113 = .pointer (some ⟨sb, 0, none⟩) := hs.val 24 rfl (ha { on := 24, ground := .data } (by simp) rfl)
        have H24 := Lib.hid T24
        refine wpOp_step (i := 25) rfl (fun K hK => ?_)
        have HK : Shut (∀ a w, _ → K a w) := hK
        clear hK ho
        have HS := Lib.hid hs
        have HM := Lib.hid hm
        have HI := Lib.hid hi
        clear hs ha hm hi
        go_simp
        exact HK.out _ _ ⟨upd e 25 true, upd (upd t 113 _) 114 _, rfl, rfl, by rw [upd_self H24.out]; exact HS.out.put ok (i := 25) rfl, (by exact HM.out.mark (by decide) (by decide))⟩
      | 26, ho, hi, ha =>
        obtain rfl : _ = o := Option.some.inj ho
        have hi : e 26 = false := hi
        have T25 : t 114 = .pointer (some ⟨sb, 0, none⟩) := hs.val 25 rfl (ha { on := 25, ground := .data } (by simp) rfl)
        have H25 := Lib.hid T25
        refine wpOp_step (i := 26) rfl (fun K hK => ?_)
        have HK : Shut (∀ a w, _ → K a w) := hK
        clear hK ho
        have HS := Lib.hid hs
        have HM := Lib.hid hm
        have HI := Lib.hid hi
        clear hs ha hm hi
        go_simp
        exact HK.out _ _ ⟨upd e 26 true, upd (upd t 114 _) 115 _, rfl, rfl, by rw [upd_self H25.out]; exact HS.out.put ok (i := 26) rfl, (by exact HM.out.mark (by decide) (by decide))⟩
      | 27, ho, hi, ha =>
        obtain rfl : _ = o := Option.some.inj ho
        have hi : e 27 = false := hi
        have T26 : t 115 = .pointer (some ⟨sb, 2, none⟩) := hs.val 26 rfl (ha { on := 26, ground := .data } (by simp) rfl)
        have H26 := Lib.hid T26
        have q_ : wr.cell? ⟨sb, 2, none⟩ = some (.int .i64 (E : Nat)) := hm.cell HC.out.2.2.1 (by omega) (by omega)
        refine wpOp_step (i := 27) rfl (fun K hK => ?_)
        have HK : Shut (∀ a w, _ → K a w) := hK
        clear hK ho
        have HS := Lib.hid hs
        have HM := Lib.hid hm
        have HI := Lib.hid hi
        clear hs ha hm hi
        go_simp
        exact HK.out _ _ ⟨upd e 27 true, upd (upd t 115 _) 116 _, rfl, rfl, by rw [upd_self H26.out]; exact HS.out.put ok (i := 27) rfl, (by exact HM.out.mark (by decide) (by decide))⟩
      | 28, ho, hi, ha =>
        obtain rfl : _ = o := Option.some.inj ho
        have hi : e 28 = false := hi
        have T0 : t 89 = .agg #[.int .i64 0, .int .i64 0, .slice none 0 0, .slice none 0 0, .int .i64 0, .slice none 0 0] := hs.val 0 rfl (ha { on := 0, ground := .data } (by simp) rfl)
        have H0 := Lib.hid T0
        have B_ : IBlk w.heap.size 36 (.int .i64 0) (.int .i64 0) (.slice none 0 0) (.slice none 0 0) (.int .i64 0) (.slice none 0 0) wr := hm.res hi HF.out.res
        obtain ⟨z0_, z1_, z2_, z3_, z4_, z5_⟩ := B_.box
        have f0_ := B_.free 0
        have f1_ := B_.free 1
        have f2_ := B_.free 2
        have f3_ := B_.free 3
        have f4_ := B_.free 4
        have f5_ := B_.free 5
        clear B_
        refine wpOp_step (i := 28) rfl (fun K hK => ?_)
        have HK : Shut (∀ a w, _ → K a w) := hK
        clear hK ho
        have HS := Lib.hid hs
        have HM := Lib.hid hm
        have HI := Lib.hid hi
        clear hs ha hm hi
        go_simp
        exact HK.out _ _ ⟨upd e 28 true, (upd t 89 _), rfl, rfl, by rw [upd_self H0.out]; exact HS.out.skip (i := 28) rfl, (by exact HM.out.st1 HI.out)⟩
      | 29, ho, hi, ha =>
        obtain rfl : _ = o := Option.some.inj ho
        have hi : e 29 = false := hi
        have T23 : t 112 = .agg #[.int .i64 (x.line : Nat), .int .i64 (x.col : Nat)] := hs.val 23 rfl (ha { on := 23, ground := .data } (by simp) rfl)
        have H23 := Lib.hid T23
        have DP : Hid (e 28 = true) := ha { on := 28, ground := .chain } (by simp) rfl
        have R_ := hm.row1 hi HF.out.pos (show w.heap.size + 1 ≠ w.heap.size by omega)
        have y0_ : wr.cell? ⟨w.heap.size + 1, 0, none⟩ = some (.int .i64 0) := by unfold World.cell?; simp only [R_]; rfl
        have y1_ : wr.cell? ⟨w.heap.size + 1, 1, none⟩ = some (.int .i64 0) := by unfold World.cell?; simp only [R_]; rfl
        have g0_ : wr.frozen? ⟨w.heap.size + 1, 0, none⟩ = false := frozen_of_row wr _ _ _ _ R_
        have g1_ : wr.frozen? ⟨w.heap.size + 1, 1, none⟩ = false := frozen_of_row wr _ _ _ _ R_
        clear R_
        refine wpOp_step (i := 29) rfl (fun K hK => ?_)
        have HK : Shut (∀ a w, _ → K a w) := hK
        clear hK ho
        have HS := Lib.hid hs
        have HM := Lib.hid hm
        have HI := Lib.hid hi
        clear hs ha hm hi
        go_simp
        exact HK.out _ _ ⟨upd e 29 true, (upd t 112 _), rfl, rfl, by rw [upd_self H23.out]; exact HS.out.skip (i := 29) rfl, (by exact HM.out.st2 DP.out HI.out)⟩
      | 30, ho, hi, ha =>
        obtain rfl : _ = o := Option.some.inj ho
        have hi : e 30 = false := hi
        have T27 : t 116 = .int .i64 (E : Nat) := hs.val 27 rfl (ha { on := 27, ground := .data } (by simp) rfl)
        have H27 := Lib.hid T27
        refine wpOp_step (i := 30) rfl (fun K hK => ?_)
        have HK : Shut (∀ a w, _ → K a w) := hK
        clear hK ho
        have HS := Lib.hid hs
        have HM := Lib.hid hm
        have HI := Lib.hid hi
        clear hs ha hm hi
        go_simp
        exact HK.out _ _ ⟨upd e 30 true, upd (upd t 116 _) 4 _, rfl, rfl, by rw [upd_self H27.out]; exact HS.out.put ok (i := 30) rfl, (by exact HM.out.mark (by decide) (by decide))⟩
      | k + 31, ho, hi, ha => simp at ho
    case done =>
      rintro lq_ aq_ wr ⟨e, t, rfl, rfl, hs, hm⟩ hr
      have hd := ready_done hr rfl (by decide +kernel)
      have hT4 : t 4 = .int .i64 (E : Nat) := hs.val 30 rfl (hd 30 (by decide))
      obtain ⟨z1', ⟨e6, e7⟩, z3', z4'⟩ := hm.fin (hd 29 (by decide)) HF.out
      obtain ⟨e0, e1, e2, e3, e4, e5⟩ := z1'.box
      clear z1' hd hr hs hm
      go_wp2
      refine bodyPost_ret (v := .tuple #[.agg #[.int .i64 0, .int .i64 0, .slice none 0 0, .slice none 0 0, .int .i64 0, .slice none 0 0], .agg #[.int .i64 (x.line : Nat), .int .i64 (x.col : Nat)], .int .i64 (E : Nat)]) (by simp [results, Tryz.results13, go_sem, e0, e1, e2, e3, e4, e5, e6, e7, hT4]) rfl ?_
      rw [hps.out]
      exact ⟨_, rfl, z3', z4'⟩
end Go.Proofs.YtbadingdklenhaaGreatDoor

/-
  What the document's Parse does with a text of the way of an assignment.
-/
namespace Go.Proofs.YtbadingdklenhaaGreatDoor
set_option maxRecDepth 100000
open Go.RowKit

def planW1B (sb g k m C l c q : Nat) : Plan := { ks := [0, 0, 0, 0, 0, 0, 0, 0, 0, 0, 0, 0, 0, 0, 0, 0, 0, 0, 0, 0, 0, 0, 0, 0, 0, 0, 0, 0, 2, 2, 0], ds := [89, 90, 91, 92, 93, 94, 95, 96, 97, 98, 99, 100, 101, 102, 103, 104, 105, 106, 107, 108, 109, 110, 111, 112, 113, 114, 115, 116, 0, 0, 4], vs := [.agg #[.int .i64 0, .int .i64 0, .slice none 0 0, .slice none 0 0, .int .i64 0, .slice none 0 0], .pointer (some ⟨sb, 0, none⟩), .pointer (some ⟨sb, 0, none⟩), .pointer (some ⟨sb, 0, none⟩), .slice (some ⟨g, 0, none⟩) m C, .pointer (some ⟨sb, 0, none⟩), .pointer (some ⟨sb, 0, none⟩), .pointer (some ⟨sb, 1, none⟩), .int .i64 (k : Nat), .pointer (some ⟨g, k * 5, none⟩), .pointer (some ⟨g, k * 5 + 3, none⟩), .int .i64 (l : Nat), .pointer (some ⟨sb, 0, none⟩), .pointer (some ⟨sb, 0, none⟩), .pointer (some ⟨sb, 0, none⟩), .slice (some ⟨g, 0, none⟩) m C, .pointer (some ⟨sb, 0, none⟩), .pointer (some ⟨sb, 0, none⟩), .pointer (some ⟨sb, 1, none⟩), .int .i64 (k : Nat), .pointer (some ⟨g, k * 5, none⟩), .pointer (some ⟨g, k * 5 + 4, none⟩), .int .i64 (c : Nat), .agg #[.int .i64 (l : Nat), .int .i64 (c : Nat)], .pointer (some ⟨sb, 0, none⟩), .pointer (some ⟨sb, 0, none⟩), .pointer (some ⟨sb, 2, none⟩), .int .i64 (q : Nat), undef, undef, .int .i64 (q : Nat)], ss := [0, 0, 0, 0, 0, 0, 0, 0, 0, 0, 0, 0, 0, 0, 0, 0, 0, 0, 0, 0, 0, 0, 0, 0, 0, 0, 0, 0, 0, 0, 0], zs := [#[], #[], #[], #[], #[], #[], #[], #[], #[], #[], #[], #[], #[], #[], #[], #[], #[], #[], #[], #[], #[], #[], #[], #[], #[], #[], #[], #[], #[], #[], #[]], fs := [#[], #[], #[], #[], #[], #[], #[], #[], #[], #[], #[], #[], #[], #[], #[], #[], #[], #[], #[], #[], #[], #[], #[], #[], #[], #[], #[], #[], #[], #[], #[]], ts := [0, 0, 0, 0, 0, 0, 0, 0, 0, 0, 0, 0, 0, 0, 0, 0, 0, 0, 0, 0, 0, 0, 0, 0, 0, 0, 0, 0, 0, 0, 0] }
def planW1C (sb g k m C l c q : Nat) : Plan := { ks := [0, 0, 0, 0, 0, 0, 0, 0, 0, 0, 0, 0, 0, 0, 0, 0, 0, 0, 0, 0, 0, 0, 0, 0, 0, 0, 0, 0, 2, 2, 0], ds := [89, 90, 91, 92, 93, 94, 95, 96, 97, 98, 99, 100, 101, 102, 103, 104, 105, 106, 107, 108, 109, 110, 111, 112, 113, 114, 115, 116, 0, 0, 4], vs := [.agg #[.int .i64 0, .int .i64 0, .slice none 0 0, .slice none 0 0, .int .i64 0, .slice none 0 0], .pointer (some ⟨sb, 0, none⟩), .pointer (some ⟨sb, 0, none⟩), .pointer (some ⟨sb, 0, none⟩), .slice (some ⟨g, 0, none⟩) m C, .pointer (some ⟨sb, 0, none⟩), .pointer (some ⟨sb, 0, none⟩), .pointer (some ⟨sb, 1, none⟩), .int .i64 (k : Nat), .pointer (some ⟨g, k * 5, none⟩), .pointer (some ⟨g, k * 5 + 3, none⟩), .int .i64 (l : Nat), .pointer (some ⟨sb, 0, none⟩), .pointer (some ⟨sb, 0, none⟩), .pointer (some ⟨sb, 0, none⟩), .slice (some ⟨g, 0, none⟩) m C, .pointer (some ⟨sb, 0, none⟩), .pointer (some ⟨sb, 0, none⟩), .pointer (some ⟨sb, 1, none⟩), .int .i64 (k : Nat), .pointer (some ⟨g, k * 5, none⟩), .pointer (some ⟨g, k * 5 + 4, none⟩), .int .i64 (c : Nat), .agg #[.int .i64 (l : Nat), .int .i64 (c : Nat)], .pointer (some ⟨sb, 0, none⟩), .pointer (some ⟨sb, 0, none⟩), .pointer (some ⟨sb, 2, none⟩), .int .i64 (q : Nat), undef, undef, .int .i64 (q : Nat)], ss := [0, 0, 0, 0, 0, 0, 0, 0, 0, 0, 0, 0, 0, 0, 0, 0, 0, 0, 0, 0, 0, 0, 0, 0, 0, 0, 0, 0, 0, 0, 0], zs := [#[], #[], #[], #[], #[], #[], #[], #[], #[], #[], #[], #[], #[], #[], #[], #[], #[], #[], #[], #[], #[], #[], #[], #[], #[], #[], #[], #[], #[], #[], #[]], fs := [#[], #[], #[], #[], #[], #[], #[], #[], #[], #[], #[], #[], #[], #[], #[], #[], #[], #[], #[], #[], #[], #[], #[], #[], #[], #[], #[], #[], #[], #[], #[]], ts := [0, 0, 0, 0, 0, 0, 0, 0, 0, 0, 0, 0, 0, 0, 0, 0, 0, 0, 0, 0, 0, 0, 0, 0, 0, 0, 0, 0, 0, 0, 0] }
set_option maxHeartbeats 8000000 in
theorem rparse_w1 (s : ByteArray) (he : (lexP s.data.toList).err = 0) (h1 : isW (lexP s.data.toList).toks kW 0 = false) (h2 : isW (lexP s.data.toList).toks aW 0 = true) (w : World) : Calls Tryz.prog 13 #[.string s] w (IsPs (parseL s.data.toList) w) := by
  have LX := fun W => rlex_any s W
  obtain ⟨W2, hW2⟩ : ∃ q, q = ((w.alloc (.cells #[.int .i64 0, .int .i64 0, .slice none 0 0, .slice none 0 0, .int .i64 0, .slice none 0 0] 36)).alloc (.cells #[.int .i64 0, .int .i64 0] 47)).alloc (.cells #[.int .i64 0, .int .i64 0, .slice none 0 0, .slice none 0 0, .int .i64 0, .slice none 0 0] 36) := ⟨_, rfl⟩
  have hsz : W2.heap.size = w.heap.size + 3 := by rw [hW2]; simp
  have hb2 : Below w.heap.size w W2 := by
    rw [hW2]
    exact ((new_below w _).alloc (by simp) _).alloc (by simp; omega) _
  have hI2 : IBlk w.heap.size 36 (.int .i64 0) (.int .i64 0) (.slice none 0 0) (.slice none 0 0) (.int .i64 0) (.slice none 0 0) W2 := by
    rw [hW2]
    exact ((iblk_new w _ _ _ _ _ _ _).next (new_below _ _)).next (new_below _ _)
  have hP2 : W2.heap[w.heap.size + 1]? = some (.cells #[.int .i64 0, .int .i64 0] 47 (0, 0)) := by
    rw [hW2]
    rw [Below.heap_alloc _ _ _ (by simp)]
    have := heap_alloc_new (w.alloc (.cells #[.int .i64 0, .int .i64 0, .slice none 0 0, .slice none 0 0, .int .i64 0, .slice none 0 0] 36)) (.cells #[.int .i64 0, .int .i64 0] 47)
    rw [World.size_alloc] at this
    exact this
  have hN2 : IBlk (w.heap.size + 1 + 1) 36 (.int .i64 0) (.int .i64 0) (.slice none 0 0) (.slice none 0 0) (.int .i64 0) (.slice none 0 0) W2 := by
    rw [hW2]
    have := iblk_new ((w.alloc (.cells #[.int .i64 0, .int .i64 0, .slice none 0 0, .slice none 0 0, .int .i64 0, .slice none 0 0] 36)).alloc (.cells #[.int .i64 0, .int .i64 0] 47)) (.int .i64 0) (.int .i64 0) (.slice none 0 0) (.slice none 0 0) (.int .i64 0) (.slice none 0 0) 36
    rw [World.size_alloc, World.size_alloc] at this
    exact this
  have ep : parseL s.data.toList = psOf (lexP s.data.toList).toks (wholeR (lexP s.data.toList).toks) := by unfold parseL; exact if_pos he
  have hE := endL_of he
  have hcnt := lexP_cnt s.data.toList
  rw [ep]
  generalize hR : lexP s.data.toList = RS at *
  obtain ⟨L, pl1, pc1, er⟩ := RS
  simp only at *
  subst he
  clear hR ep
  go_enter Tryz.func13, Tryz.ntmps13
  go_wp2_with fail
  rw [← hW2]
  with_reducible refine (LX _).mono ?_
  rintro e w3 ⟨v, rfl, own, b3⟩
  have hT := toks_of_own own
  obtain ⟨A, C, rfl, hc1, hc2, hg⟩ := hT
  obtain ⟨g, rfl, hT⟩ := hg hE.pos
  have hs3 := b3.size
  have hgB : w.heap.size + 1 + 1 < g := by
    have := (own.lt g rfl).1
    omega
  have nb4 := new_below w3 (.cells #[.int .i64 (pl1 : Nat), .int .i64 (pc1 : Nat)] 47)
  have nb5 := new_below (w3.alloc (.cells #[.int .i64 (pl1 : Nat), .int .i64 (pc1 : Nat)] 47)) (.cells #[.slice (some ⟨g, 0, none⟩) L.length C, .int .i64 0, .int .i64 0] 89)
  have hn5 := heap_alloc_new (w3.alloc (.cells #[.int .i64 (pl1 : Nat), .int .i64 (pc1 : Nat)] 47)) (.cells #[.slice (some ⟨g, 0, none⟩) L.length C, .int .i64 0, .int .i64 0] 89)
  rw [World.size_alloc] at hn5
  obtain ⟨W5, hW5⟩ : ∃ q, q = (w3.alloc (.cells #[.int .i64 (pl1 : Nat), .int .i64 (pc1 : Nat)] 47)).alloc (.cells #[.slice (some ⟨g, 0, none⟩) L.length C, .int .i64 0, .int .i64 0] 89) := ⟨_, rfl⟩
  rw [← hW5] at nb5 hn5
  have b35 : Below w3.heap.size w3 W5 := nb4.trans (nb5.mono nb4.size)
  have b25 := b3.trans (b35.mono b3.size)
  have hF5 : Fr (w3.heap.size + 1) g C L (0, 0) w W5 :=
    ⟨hI2.next b25, (b25.block _ (by omega)).trans hP2, hN2.next b25, ⟨hn5, hT.next b35, by have := hT.1; omega, hc1, hc2, hE.pos⟩, hb2.trans (b25.mono (by omega)), by omega, hgB⟩
  obtain ⟨sb, hsb⟩ : ∃ x, x = w3.heap.size + 1 := ⟨_, rfl⟩
  rw [← hsb] at hF5
  have HF := Lib.hid hF5
  have IK := fun W hW => ris_any sb g C L (0, 0) ⟨#[107, 110, 97, 112, 115, 97, 99, 107]⟩ kW rfl W hW
  have IA := fun W hW => ris_any sb g C L (0, 0) ⟨#[97, 115, 115, 105, 103, 110, 109, 101, 110, 116]⟩ aW rfl W hW
  have IT := fun W hW => ris_any sb g C L (0, 0) ⟨#[116, 115, 112]⟩ tW rfl W hW
  have IC := fun W hW => ris_any sb g C L (0, 0) ⟨#[99, 111, 118, 101, 114]⟩ cW rfl W hW
  simp only at IK IA IT IC
  have FL := fun q W hW => rfail_any sb g C L q 4 4 rfl W hW
  have FL4 := fun q W hW => rfail_any sb g C L q 4 4 rfl W hW
  have KN := fun W hW => rknap_any sb g C L hE 1 W hW
  have CV := fun W hW => rcover_any sb g C L hE hcnt 1 W hW
  have SQ1 := fun W hW => rsquare_any sb g C L hE 1 1 W hW
  have SQ2 := fun W hW => rsquare_any sb g C L hE 1 2 W hW
  clear hI2 hP2 hN2 b3 hb2 own hg hT hW2 LX hF5 nb4 nb5 b35 b25 hn5
  go_wp2_with fail
  rw [← hW5, ← hsb]
  clear hW5 hsb
  have F5 := HF
  clear HF
  have h3 : isW L tW 0 = false := isW_other h2 (by decide)
  have h4 : isW L cW 0 = false := isW_other h2 (by decide)
  rw [h1] at IK
  rw [h2] at IA
  rw [h3] at IT
  rw [h4] at IC
  have hR : instR L = squareR L 1 1 := by unfold instR; rw [if_neg (by rw [h1]; simp), if_pos h2]
  have hg1 := isW_goes hE h2
  clear KN SQ2 CV FL
  with_reducible refine (IK _ F5.out.st).mono ?_
  rintro e v6 ⟨rfl, b6⟩
  have F6 := Lib.hid (F5.out.next b6)
  clear F5 b6 IK
  go_wp2_with fail
  with_reducible refine (IA _ F6.out.st).mono ?_
  rintro e v7 ⟨rfl, b7⟩
  have F7 := Lib.hid (F6.out.next b7)
  clear F6 b7 IA
  go_wp2_with fail
  with_reducible refine (IT _ F7.out.st).mono ?_
  rintro e v8 ⟨rfl, b8⟩
  have F8 := Lib.hid (F7.out.next b8)
  clear F7 b8 IT
  go_wp2_with fail
  with_reducible refine (IC _ F8.out.st).mono ?_
  rintro e v9 ⟨rfl, b9⟩
  have F9 := Lib.hid (F8.out.next b9)
  clear F8 b9 IC
  obtain ⟨n0, n1, n2, n3, n4, n5⟩ := F9.out.non.box
  obtain ⟨c0, c1, c2, f1, f2⟩ := F9.out.st.cells
  have hs := F9.out.st.size
  have hgl := F9.out.st.toks.1
  have hse := F9.out.sep
  simp only at c1 c2
  have F9N := F9.out.non.lt
  obtain ⟨xb, hxb⟩ : ∃ x, x = v9.heap.size := ⟨_, rfl⟩
  have F10 := F9.out.kb ((Kb.refl sb _).store (a := ⟨sb, 1, none⟩) rfl (.int .i64 ((1 : Nat) : Int))) (F9.out.st.goes (k := 1) hg1)
  rw [show ((1 : Nat) : Int) = 1 from rfl] at F10
  have hsz9 : (v9.setCell ⟨sb, 1, none⟩ (.int .i64 1)).heap.size = v9.heap.size := by simp [World.setCell]
  have nb := new_below (v9.setCell ⟨sb, 1, none⟩ (.int .i64 1)) (.cells #[.int .i64 0, .int .i64 0, .slice none 0 0, .slice none 0 0, .int .i64 0, .slice none 0 0] 36)
  have F11 := F10.next nb
  have X11 := iblk_new (v9.setCell ⟨sb, 1, none⟩ (.int .i64 1)) (.int .i64 0) (.int .i64 0) (.slice none 0 0) (.slice none 0 0) (.int .i64 0) (.slice none 0 0) 36
  rw [hsz9] at X11
  have F11 := Lib.hid F11
  have X11 := Lib.hid X11
  clear F9 F10 nb
  go_wp2_with fail
  with_reducible refine (SQ1 _ F11.out.st).mono ?_
  rintro r v12 ⟨v, q, a, bb, A0, m0, C0, A1, m1, C1, zz, A2, m2, C2, rfl, rfl, hst, kb, hrel⟩
  have F12 := F11.out.kb kb hst
  have X12 := X11.out.kb kb (show v9.heap.size ≠ sb by omega)
  have hsz11 := F11.out.be.size
  have hx11 := X11.out.lt
  have hx12 := X12.lt
  obtain ⟨x0, x1, x2, x3, x4, x5⟩ := X12.box
  have f := X12.free
  have fx0 := f 0
  have fx1 := f 1
  have fx2 := f 2
  have fx3 := f 3
  have fx4 := f 4
  have fx5 := f 5
  have MD := Lib.hid (Mid.part (w := w) hR X12 (by have := F11.out.non.lt; omega) hx11 hrel)
  have FR := Lib.hid (F12.put (x := v9.heap.size) (v0 := .int .i64 a) (v1 := .int .i64 bb) (v2 := .slice A0 m0 C0) (v3 := .slice A1 m1 C1) (v4 := .int .i64 zz) (v5 := .slice A2 m2 C2) (by omega) (by omega) (by omega))
  clear F11 X11 f X12 F12 hst kb hrel SQ1 c0 c1 c2 f1 f2 n0 n1 n2 n3 n4 n5
  obtain ⟨WM, hWM⟩ : ∃ W, W = set6 v9.heap.size (.int .i64 a) (.int .i64 bb) (.slice A0 m0 C0) (.slice A1 m1 C1) (.int .i64 zz) (.slice A2 m2 C2) v12 := ⟨_, rfl⟩
  rw [← hWM] at MD FR
  unfold set6 at hWM
  go_wp2
  rw [← hWM]
  rw [← hxb] at MD F9N ⊢
  clear hWM x0 x1 x2 x3 x4 x5 fx0 fx1 fx2 fx3 fx4 fx5
  have hxN := F9N
  clear F9N hxb hsz9 hsz11 hx11 hx12 hcnt hR hs hgl hse hg1
  obtain ⟨k, ec⟩ := q
  have HMM := Lib.hid (And.intro FR.out (And.intro MD.out hxN))
  clear FR MD hxN
  have FR := Lib.hid HMM.out.1
  have MD := Lib.hid HMM.out.2.1
  have hxN := HMM.out.2.2
  clear HMM
  have hklt : k < L.length := FR.out.st.lt
  obtain ⟨x, hx⟩ := hE.at hklt
  obtain ⟨c0, c1, c2, _, _⟩ := FR.out.st.cells
  have hs12 := FR.out.st.size
  have hgl12 := FR.out.st.toks.1
  simp only at c1 c2
  obtain ⟨t0, _, _, _, _⟩ := FR.out.st.toks.get hx
  have hle := FR.out.st.le
  have hmx := FR.out.st.mx
  unfold maxLen at hmx
  have i1 : (0 : Int) ≤ (k : Int) := by omega
  have i2 : (k : Int) < (L.length : Int) := by omega
  have e1 : wholeR L = (instR L).nx fun I k => (tokR L 3 k).nx fun _ k1 => .ok I k1 := rfl
  have HX0 := Lib.hid hx
  obtain ⟨kd, hkd⟩ : ∃ kd : Int, ((x.kind : Nat) : Int) = kd := ⟨_, rfl⟩
  rw [hkd] at t0
  by_cases hc : x.kind = 3
  · have hkd3 : kd = 3 := by omega
    subst hkd3
    clear hx hkd
    go_quiet (fail)
    generalize hWB : WM.drewN _ = WB
    have FB0 : Fr sb g C L (k, ec) w WB := by rw [← hWB]; exact FR.out.next (below_drewN (Below.refl _ _) _)
    have MB0 : Mid L w xb (k, ec) WB := by rw [← hWB]; exact MD.out.next (below_drewN (Below.refl _ _) _)
    have FB := Lib.hid FB0
    have MB := Lib.hid MB0
    clear FR MD FB0 MB0 hWB c0 c1 c2 t0
    obtain ⟨ax, bbx, A0x, m0x, C0x, A1x, m1x, C1x, zzx, A2x, m2x, C2x, HXB0, hrel⟩ := MB.out
    have HXB := Lib.hid HXB0
    clear HXB0 MB
    rcases hrel with ⟨he0, I, hRi, hIn⟩ | ⟨he0, hRi⟩
    · have he0 : ec = 0 := he0
      subst he0
      have hWR : wholeR L = .ok I (k + 1) := by
        rw [e1, hRi]
        show (tokR L 3 k).nx _ = _
        unfold tokR
        rw [HX0.out]
        simp only
        rw [if_pos hc]
        rfl
      have HIN := Lib.hid hIn
      clear e1 hRi hIn hc
      have hps := Lib.hid (show psOf L (wholeR L) = ⟨I, 0, 0, 0⟩ by rw [hWR]; rfl)
      obtain ⟨z0, z1, z2, z3, z4, z5⟩ := FB.out.res.box
      obtain ⟨n0, n1, n2, n3, n4, n5⟩ := HXB.out.box
      have hPP := FB.out.pos
      have y0 : WB.cell? ⟨w.heap.size + 1, 0, none⟩ = some (.int .i64 0) := by unfold World.cell?; simp only [hPP]; rfl
      have y1 : WB.cell? ⟨w.heap.size + 1, 1, none⟩ = some (.int .i64 0) := by unfold World.cell?; simp only [hPP]; rfl
      have f := FB.out.res.free
      have f0 := f 0
      have f1 := f 1
      have f2 := f 2
      have f3 := f 3
      have f4 := f 4
      have f5 := f 5
      have g0 : WB.frozen? ⟨w.heap.size + 1, 0, none⟩ = false := frozen_of_row WB _ _ _ _ hPP
      have g1 : WB.frozen? ⟨w.heap.size + 1, 1, none⟩ = false := frozen_of_row WB _ _ _ _ hPP
      have hb0 : w.heap.size < WB.heap.size := FB.out.res.lt
      have hb1 : w.heap.size + 1 < WB.heap.size := lt_of_block hPP
      have hb3 : xb < WB.heap.size := HXB.out.lt
      have hse := FB.out.sep
      obtain ⟨c0, c1, c2, _, _⟩ := FB.out.st.cells
      have hs := FB.out.st.size
      simp only at c1 c2
      have q1 := ((held_set6 (b := w.heap.size) (v0 := .int .i64 ax) (v1 := .int .i64 bbx) (v2 := .slice A0x m0x C0x) (v3 := .slice A1x m1x C1x) (v4 := .int .i64 zzx) (v5 := .slice A2x m2x C2x) (w := WB) (F := fun q => q = w.heap.size + 1) (fun q hq => by omega)).2 _ rfl (by omega)).trans hPP
      have q0 := FB.out.res.set6 (v0 := .int .i64 ax) (v1 := .int .i64 bbx) (v2 := .slice A0x m0x C0x) (v3 := .slice A1x m1x C1x) (v4 := .int .i64 zzx) (v5 := .slice A2x m2x C2x)
      have q2 := heap_setCell_same _ (w.heap.size + 1) 1 _ _ (.int .i64 0) (heap_setCell_same _ (w.heap.size + 1) 0 _ _ (.int .i64 0) q1)
      have q3 := (q0.other (a := ⟨w.heap.size + 1, 0, none⟩) (show w.heap.size ≠ w.heap.size + 1 by omega) (.int .i64 0)).other (a := ⟨w.heap.size + 1, 1, none⟩) (show w.heap.size ≠ w.heap.size + 1 by omega) (.int .i64 0)
      have q4 := end8 (v0 := .int .i64 ax) (v1 := .int .i64 bbx) (v2 := .slice A0x m0x C0x) (v3 := .slice A1x m1x C1x) (v4 := .int .i64 zzx) (v5 := .slice A2x m2x C2x) (u0 := .int .i64 0) (u1 := .int .i64 0) HIN.out FB.out.be (by omega)
      have HQ := Lib.hid (And.intro q3 (And.intro q2 q4))
      unfold set6 at HQ
      clear f q0 q1 q2 q3 q4 hPP FB hWR HIN HXB
      go_wp2
      obtain ⟨z1', z2', z3', z4'⟩ := HQ.out
      clear HQ
      revert z1' z2' z3' z4'
      generalize ((((((((WB.setCell _ _).setCell _ _).setCell _ _).setCell _ _).setCell _ _).setCell _ _).setCell _ _).setCell _ _) = W8
      intro z1' z2' z3' z4'
      obtain ⟨e0, e1, e2, e3, e4, e5⟩ := z1'.box
      have e6 : W8.cell? ⟨w.heap.size + 1, 0, none⟩ = some (.int .i64 0) := by unfold World.cell?; simp only [z2']; rfl
      have e7 : W8.cell? ⟨w.heap.size + 1, 1, none⟩ = some (.int .i64 0) := by unfold World.cell?; simp only [z2']; rfl
      refine bodyPost_ret (v := .tuple #[.agg #[.int .i64 ax, .int .i64 bbx, .slice A0x m0x C0x, .slice A1x m1x C1x, .int .i64 zzx, .slice A2x m2x C2x], .agg #[.int .i64 0, .int .i64 0], .int .i64 0]) (by simp [results, Tryz.results13, go_sem, e0, e1, e2, e3, e4, e5, e6, e7]) rfl ?_
      rw [hps.out]
      exact ⟨_, rfl, z3', z4'⟩
    · have he0 : ec ≠ 0 := he0
      have hWR : wholeR L = .no k ec := by rw [e1, hRi]; rfl
      have he2 : ¬ (ec : Int) = 0 := by omega
      clear e1 hRi HXB hc
      have hx := HX0.out
      have hps := Lib.hid (show psOf L (wholeR L) = ⟨zIn, x.line, x.col, ec⟩ by rw [hWR]; simp [psOf, hx])
      have hF0 : Fr sb g C L (k, ec) w WB.drew := FB.out.next (Below.refl _ _).drew
      obtain ⟨W0, hW0⟩ : ∃ q, q = WB.drew := ⟨_, rfl⟩
      rw [← hW0] at hF0
      have HY : Hid (RM w.heap.size (x.line : Nat) (x.col : Nat) W0 (fun _ => false) WB.drew) := by rw [← hW0]; exact RM.start _ _ _ _
      obtain ⟨c0, c1, c2, _, _⟩ := FB.out.st.cells
      have hs := FB.out.st.size
      have hgl := FB.out.st.toks.1
      simp only at c1 c2
      have HF := Lib.hid hF0
      have HT := Lib.hid (hF0.st.toks.get hx)
      have HC := Lib.hid hF0.st.cells
      have hse := FB.out.sep
      clear FB hWR hx hF0 hW0
      go_wp2
      have ok : (planW1B sb g k L.length C x.line x.col ec).ok = true := rfl
      refine region_inv (Inv := fun lq_ aq_ wr => ∃ (e : Nat → Bool) (t : Nat → Value), lq_ = #[e 0, e 1, e 2, e 3, e 4, e 5, e 6, e 7, e 8, e 9, e 10, e 11, e 12, e 13, e 14, e 15, e 16, e 17, e 18, e 19, e 20, e 21, e 22, e 23, e 24, e 25, e 26, e 27, e 28, e 29, e 30] ∧ aq_ = ⟨#[.string s, undef, .pointer (some ⟨w.heap.size, 0, none⟩), .pointer (some ⟨w.heap.size + 1, 0, none⟩), t 4, .pointer (some ⟨w.heap.size + 1 + 1, 0, none⟩), .slice (some ⟨g, 0, none⟩) L.length C, .pointer (some ⟨w3.heap.size, 0, none⟩), .int .i64 0, .pointer (some ⟨sb, 0, none⟩), .bool false, .bool true, .bool false, .bool false, .pointer (some ⟨xb, 0, none⟩), .agg #[.int .i64 0, .int .i64 0, .slice none 0 0, .slice none 0 0, .int .i64 0, .slice none 0 0], .tuple #[.slice (some ⟨g, 0, none⟩) L.length C, .agg #[.int .i64 (pl1 : Int), .int .i64 (pc1 : Int)], .int .i64 0], .string s, .tuple #[.slice (some ⟨g, 0, none⟩) L.length C, .agg #[.int .i64 (pl1 : Int), .int .i64 (pc1 : Int)], .int .i64 0], .slice (some ⟨g, 0, none⟩) L.length C, .agg #[.int .i64 (pl1 : Int), .int .i64 (pc1 : Int)], .int .i64 0, .int .i64 0, .bool false, undef, undef, undef, .slice (some ⟨g, 0, none⟩) L.length C, .agg #[.slice (some ⟨g, 0, none⟩) L.length C, .int .i64 0, .int .i64 0], .pointer (some ⟨sb, 0, none⟩), .pointer (some ⟨sb, 0, none⟩), .bool false, .pointer (some ⟨sb, 0, none⟩), .bool true, .pointer (some ⟨sb, 0, none⟩), .bool false, .pointer (some ⟨sb, 0, none⟩), .bool false, .agg #[.int .i64 0, .int .i64 0, .slice none 0 0, .slice none 0 0, .int .i64 0, .slice none 0 0], .bool false, .bool true, .bool true, .bool true, .bool false, .bool false, .bool false, undef, undef, .bool false, .bool false, undef, undef, .bool false, undef, undef, .pointer (some ⟨sb, 0, none⟩), .pointer (some ⟨sb, 0, none⟩), .pointer (some ⟨sb, 1, none⟩), .bool false, undef, undef, .bool true, .pointer (some ⟨sb, 0, none⟩), .agg #[.int .i64 a, .int .i64 bb, .slice A0 m0 C0, .slice A1 m1 C1, .int .i64 zz, .slice A2 m2 C2], .bool false, undef, undef, .bool false, undef, undef, .pointer (some ⟨sb, 0, none⟩), .pointer (some ⟨sb, 0, none⟩), .pointer (some ⟨sb, 0, none⟩), .slice (some ⟨g, 0, none⟩) L.length C, .pointer (some ⟨sb, 0, none⟩), .pointer (some ⟨sb, 0, none⟩), .pointer (some ⟨sb, 1, none⟩), .int .i64 (k : Int), .pointer (some ⟨g, k * 5, none⟩), .pointer (some ⟨g, k * 5, none⟩), .int .i64 3, .bool false, undef, undef, .pointer (some ⟨sb, 0, none⟩), .pointer (some ⟨sb, 0, none⟩), .pointer (some ⟨sb, 2, none⟩), .int .i64 (ec : Int), .bool true, t 89, t 90, t 91, t 92, t 93, t 94, t 95, t 96, t 97, t 98, t 99, t 100, t 101, t 102, t 103, t 104, t 105, t 106, t 107, t 108, t 109, t 110, t 111, t 112, t 113, t 114, t 115, t 116, undef, undef], []⟩ ∧ Vals (planW1B sb g k L.length C x.line x.col ec) e t ∧ RM w.heap.size (x.line : Nat) (x.col : Nat) W0 e wr) (by kernel_rfl) ?step ?start ?done
      case start => exact ⟨fun _ => false, fun j => if j = 4 then .int .i64 0 else undef, rfl, rfl, Vals.start _ _, HY.out⟩
      case step =>
        rintro lq_ aq_ wr ⟨e, t, rfl, rfl, hs, hm⟩ q_ o ho hi ha
        match q_, ho, hi, ha with
        | 0, ho, hi, ha =>
          obtain rfl : _ = o := Option.some.inj ho
          have hi : e 0 = false := hi
          have B_ : IBlk (w.heap.size + 1 + 1) 36 (.int .i64 0) (.int .i64 0) (.slice none 0 0) (.slice none 0 0) (.int .i64 0) (.slice none 0 0) wr := hm.row HF.out.non (by omega) (by omega)
          obtain ⟨n0_, n1_, n2_, n3_, n4_, n5_⟩ := B_.box
          clear B_
          refine wpOp_step (i := 0) rfl (fun K hK => ?_)
          have HK : Shut (∀ a w, _ → K a w) := hK
          clear hK ho
          have HS := Lib.hid hs
          have HM := Lib.hid hm
          have HI := Lib.hid hi
          clear hs ha hm hi
          go_simp
          exact HK.out _ _ ⟨upd e 0 true, upd t 89 _, rfl, rfl, by exact HS.out.put ok (i := 0) rfl, (by exact HM.out.mark (by decide) (by decide))⟩
        | 1, ho, hi, ha =>
          obtain rfl : _ = o := Option.some.inj ho
          have hi : e 1 = false := hi
          refine wpOp_step (i := 1) rfl (fun K hK => ?_)
          have HK : Shut (∀ a w, _ → K a w) := hK
          clear hK ho
          have HS := Lib.hid hs
          have HM := Lib.hid hm
          have HI := Lib.hid hi
          clear hs ha hm hi
          go_simp
          exact HK.out _ _ ⟨upd e 1 true, upd t 90 _, rfl, rfl, by exact HS.out.put ok (i := 1) rfl, (by exact HM.out.mark (by decide) (by decide))⟩
        | 2, ho, hi, ha =>
          obtain rfl : _ = o := Option.some.inj ho
          have hi : e 2 = false := hi
          have T1 : t 90 = .pointer (some ⟨sb, 0, none⟩) := hs.val 1 rfl (ha { on := 1, ground := .data } (by simp) rfl)
          have H1 := Lib.hid T1
          refine wpOp_step (i := 2) rfl (fun K hK => ?_)
          have HK : Shut (∀ a w, _ → K a w) := hK
          clear hK ho
          have HS := Lib.hid hs
          have HM := Lib.hid hm
          have HI := Lib.hid hi
          clear hs ha hm hi
          go_simp
          exact HK.out _ _ ⟨upd e 2 true, upd (upd t 90 _) 91 _, rfl, rfl, by rw [upd_self H1.out]; exact HS.out.put ok (i := 2) rfl, (by exact HM.out.mark (by decide) (by decide))⟩
        | 3, ho, hi, ha =>
          obtain rfl : _ = o := Option.some.inj ho
          have hi : e 3 = false := hi
          have T2 : t 91 = .pointer (some ⟨sb, 0, none⟩) := hs.val 2 rfl (ha { on := 2, ground := .data } (by simp) rfl)
          have H2 := Lib.hid T2
          refine wpOp_step (i := 3) rfl (fun K hK => ?_)
          have HK : Shut (∀ a w, _ → K a w) := hK
          clear hK ho
          have HS := Lib.hid hs
          have HM := Lib.hid hm
          have HI := Lib.hid hi
          clear hs ha hm hi
          go_simp
          exact HK.out _ _ ⟨upd e 3 true, upd (upd t 91 _) 92 _, rfl, rfl, by rw [upd_self H2.out]; exact HS.out.put ok (i := 3) rfl, (by exact HM.out.mark (by decide) (by decide))⟩
        | 4, ho, hi, ha =>
          obtain rfl : _ = o := Option.some.inj ho
          have hi : e 4 = false := hi
          have T3 : t 92 = .pointer (some ⟨sb, 0, none⟩) := hs.val 3 rfl (ha { on := 3, ground := .data } (by simp) rfl)
          have H3 := Lib.hid T3
          have q_ : wr.cell? ⟨sb, 0, none⟩ = some (.slice (some ⟨g, 0, none⟩) L.length C) := hm.cell HC.out.1 (by omega) (by omega)
          refine wpOp_step (i := 4) rfl (fun K hK => ?_)
          have HK : Shut (∀ a w, _ → K a w) := hK
          clear hK ho
          have HS := Lib.hid hs
          have HM := Lib.hid hm
          have HI := Lib.hid hi
          clear hs ha hm hi
          go_simp
          exact HK.out _ _ ⟨upd e 4 true, upd (upd t 92 _) 93 _, rfl, rfl, by rw [upd_self H3.out]; exact HS.out.put ok (i := 4) rfl, (by exact HM.out.mark (by decide) (by decide))⟩
        | 5, ho, hi, ha =>
          obtain rfl : _ = o := Option.some.inj ho
          have hi : e 5 = false := hi
          refine wpOp_step (i := 5) rfl (fun K hK => ?_)
          have HK : Shut (∀ a w, _ → K a w) := hK
          clear hK ho
          have HS := Lib.hid hs
          have HM := Lib.hid hm
          have HI := Lib.hid hi
          clear hs ha hm hi
          go_simp
          exact HK.out _ _ ⟨upd e 5 true, upd t 94 _, rfl, rfl, by exact HS.out.put ok (i := 5) rfl, (by exact HM.out.mark (by decide) (by decide))⟩
        | 6, ho, hi, ha =>
          obtain rfl : _ = o := Option.some.inj ho
          have hi : e 6 = false := hi
          have T5 : t 94 = .pointer (some ⟨sb, 0, none⟩) := hs.val 5 rfl (ha { on := 5, ground := .data } (by simp) rfl)
          have H5 := Lib.hid T5
          refine wpOp_step (i := 6) rfl (fun K hK => ?_)
          have HK : Shut (∀ a w, _ → K a w) := hK
          clear hK ho
          have HS := Lib.hid hs
          have HM := Lib.hid hm
          have HI := Lib.hid hi
          clear hs ha hm hi
          go_simp
          exact HK.out _ _ ⟨upd e 6 true, upd (upd t 94 _) 95 _, rfl, rfl, by rw [upd_self H5.out]; exact HS.out.put ok (i := 6) rfl, (by exact HM.out.mark (by decide) (by decide))⟩
        | 7, ho, hi, ha =>
          obtain rfl : _ = o := Option.some.inj ho
          have hi : e 7 = false := hi
          have T6 : t 95 = .pointer (some ⟨sb, 0, none⟩) := hs.val 6 rfl (ha { on := 6, ground := .data } (by simp) rfl)
          have H6 := Lib.hid T6
          refine wpOp_step (i := 7) rfl (fun K hK => ?_)
          have HK : Shut (∀ a w, _ → K a w) := hK
          clear hK ho
          have HS := Lib.hid hs
          have HM := Lib.hid hm
          have HI := Lib.hid hi
          clear hs ha hm hi
          go_simp
          exact HK.out _ _ ⟨upd e 7 true, upd (upd t 95 _) 96 _, rfl, rfl, by rw [upd_self H6.out]; exact HS.out.put ok (i := 7) rfl, (by exact HM.out.mark (by decide) (by decide))⟩
        | 8, ho, hi, ha =>
          obtain rfl : _ = o := Option.some.inj ho
          have hi : e 8 = false := hi
          have T7 : t 96 = .pointer (some ⟨sb, 1, none⟩) := hs.val 7 rfl (ha { on := 7, ground := .data } (by simp) rfl)
          have H7 := Lib.hid T7
          have q_ : wr.cell? ⟨sb, 1, none⟩ = some (.int .i64 (k : Nat)) := hm.cell HC.out.2.1 (by omega) (by omega)
          refine wpOp_step (i := 8) rfl (fun K hK => ?_)
          have HK : Shut (∀ a w, _ → K a w) := hK
          clear hK ho
          have HS := Lib.hid hs
          have HM := Lib.hid hm
          have HI := Lib.hid hi
          clear hs ha hm hi
          go_simp
          exact HK.out _ _ ⟨upd e 8 true, upd (upd t 96 _) 97 _, rfl, rfl, by rw [upd_self H7.out]; exact HS.out.put ok (i := 8) rfl, (by exact HM.out.mark (by decide) (by decide))⟩
        | 9, ho, hi, ha =>
          obtain rfl : _ = o := Option.some.inj ho
          have hi : e 9 = false := hi
          have T4 : t 93 = .slice (some ⟨g, 0, none⟩) L.length C := hs.val 4 rfl (ha { on := 4, ground := .data } (by simp) rfl)
          have H4 := Lib.hid T4
          have T8 : t 97 = .int .i64 (k : Nat) := hs.val 8 rfl (ha { on := 8, ground := .data } (by simp) rfl)
          have H8 := Lib.hid T8
          refine wpOp_step (i := 9) rfl (fun K hK => ?_)
          have HK : Shut (∀ a w, _ → K a w) := hK
          clear hK ho
          have HS := Lib.hid hs
          have HM := Lib.hid hm
          have HI := Lib.hid hi
          clear hs ha hm hi
          go_simp
          exact HK.out _ _ ⟨upd e 9 true, upd (upd (upd t 93 _) 97 _) 98 _, rfl, rfl, by rw [upd_self H4.out, upd_self H8.out]; exact HS.out.put ok (i := 9) rfl, (by exact HM.out.mark (by decide) (by decide))⟩
        | 10, ho, hi, ha =>
          obtain rfl : _ = o := Option.some.inj ho
          have hi : e 10 = false := hi
          have T9 : t 98 = .pointer (some ⟨g, k * 5, none⟩) := hs.val 9 rfl (ha { on := 9, ground := .data } (by simp) rfl)
          have H9 := Lib.hid T9
          refine wpOp_step (i := 10) rfl (fun K hK => ?_)
          have HK : Shut (∀ a w, _ → K a w) := hK
          clear hK ho
          have HS := Lib.hid hs
          have HM := Lib.hid hm
          have HI := Lib.hid hi
          clear hs ha hm hi
          go_simp
          exact HK.out _ _ ⟨upd e 10 true, upd (upd t 98 _) 99 _, rfl, rfl, by rw [upd_self H9.out]; exact HS.out.put ok (i := 10) rfl, (by exact HM.out.mark (by decide) (by decide))⟩
        | 11, ho, hi, ha =>
          obtain rfl : _ = o := Option.some.inj ho
          have hi : e 11 = false := hi
          have T10 : t 99 = .pointer (some ⟨g, k * 5 + 3, none⟩) := hs.val 10 rfl (ha { on := 10, ground := .data } (by simp) rfl)
          have H10 := Lib.hid T10
          have q_ : wr.cell? ⟨g, k * 5 + 3, none⟩ = some (.int .i64 (x.line : Nat)) := hm.cell HT.out.2.2.2.1 (by omega) (by omega)
          refine wpOp_step (i := 11) rfl (fun K hK => ?_)
          have HK : Shut (∀ a w, _ → K a w) := hK
          clear hK ho
          have HS := Lib.hid hs
          have HM := Lib.hid hm
          have HI := Lib.hid hi
          clear hs ha hm hi
          go_simp
          exact HK.out _ _ ⟨upd e 11 true, upd (upd t 99 _) 100 _, rfl, rfl, by rw [upd_self H10.out]; exact HS.out.put ok (i := 11) rfl, (by exact HM.out.mark (by decide) (by decide))⟩
        | 12, ho, hi, ha =>
          obtain rfl : _ = o := Option.some.inj ho
          have hi : e 12 = false := hi
          refine wpOp_step (i := 12) rfl (fun K hK => ?_)
          have HK : Shut (∀ a w, _ → K a w) := hK
          clear hK ho
          have HS := Lib.hid hs
          have HM := Lib.hid hm
          have HI := Lib.hid hi
          clear hs ha hm hi
          go_simp
          exact HK.out _ _ ⟨upd e 12 true, upd t 101 _, rfl, rfl, by exact HS.out.put ok (i := 12) rfl, (by exact HM.out.mark (by decide) (by decide))⟩
        | 13, ho, hi, ha =>
          obtain rfl : _ = o := Option.some.inj ho
          have hi : e 13 = false := hi
          have T12 : t 101 = .pointer (some ⟨sb, 0, none⟩) := hs.val 12 rfl (ha { on := 12, ground := .data } (by simp) rfl)
          have H12 := Lib.hid T12
          refine wpOp_step (i := 13) rfl (fun K hK => ?_)
          have HK : Shut (∀ a w, _ → K a w) := hK
          clear hK ho
          have HS := Lib.hid hs
          have HM := Lib.hid hm
          have HI := Lib.hid hi
          clear hs ha hm hi
          go_simp
          exact HK.out _ _ ⟨upd e 13 true, upd (upd t 101 _) 102 _, rfl, rfl, by rw [upd_self H12.out]; exact HS.out.put ok (i := 13) rfl, (by exact HM.out.mark (by decide) (by decide))⟩
        | 14, ho, hi, ha =>
          obtain rfl : _ = o := Option.some.inj ho
          have hi : e 14 = false := hi
          have T13 : t 102 = .pointer (some ⟨sb, 0, none⟩) := hs.val 13 rfl (ha { on := 13, ground := .data } (by simp) rfl)
          have H13 := Lib.hid T13
          refine wpOp_step (i := 14) rfl (fun K hK => ?_)
          have HK : Shut (∀ a w, _ → K a w) := hK
          clear hK ho
          have HS := Lib.hid hs
          have HM := Lib.hid hm
          have HI := Lib.hid hi
          clear hs ha hm hi
          go_simp
          exact HK.out _ _ ⟨upd e 14 true, upd (upd t 102 _) 103 _, rfl, rfl, by rw [upd_self H13.out]; exact HS.out.put ok (i := 14) rfl, (by exact HM.out.mark (by decide) (by decide))⟩
        | 15, ho, hi, ha =>
          obtain rfl : _ = o := Option.some.inj ho
          have hi : e 15 = false := hi
          have T14 : t 103 = .pointer (some ⟨sb, 0, none⟩) := hs.val 14 rfl (ha { on := 14, ground := .data } (by simp) rfl)
          have H14 := Lib.hid T14
          have q_ : wr.cell? ⟨sb, 0, none⟩ = some (.slice (some ⟨g, 0, none⟩) L.length C) := hm.cell HC.out.1 (by omega) (by omega)
          refine wpOp_step (i := 15) rfl (fun K hK => ?_)
          have HK : Shut (∀ a w, _ → K a w) := hK
          clear hK ho
          have HS := Lib.hid hs
          have HM := Lib.hid hm
          have HI := Lib.hid hi
          clear hs ha hm hi
          go_simp
          exact HK.out _ _ ⟨upd e 15 true, upd (upd t 103 _) 104 _, rfl, rfl, by rw [upd_self H14.out]; exact HS.out.put ok (i := 15) rfl, (by exact HM.out.mark (by decide) (by decide))⟩
        | 16, ho, hi, ha =>
          obtain rfl : _ = o := Option.some.inj ho
          have hi : e 16 = false := hi
          refine wpOp_step (i := 16) rfl (fun K hK => ?_)
          have HK : Shut (∀ a w, _ → K a w) := hK
          clear hK ho
          have HS := Lib.hid hs
          have HM := Lib.hid hm
          have HI := Lib.hid hi
          clear hs ha hm hi
          go_simp
          exact HK.out _ _ ⟨upd e 16 true, upd t 105 _, rfl, rfl, by exact HS.out.put ok (i := 16) rfl, (by exact HM.out.mark (by decide) (by decide))⟩
        | 17, ho, hi, ha =>
          obtain rfl : _ = o := Option.some.inj ho
          have hi : e 17 = false := hi
          have T16 : t 105 = .pointer (some ⟨sb, 0, none⟩) := hs.val 16 rfl (ha { on := 16, ground := .data } (by simp) rfl)
          have H16 := Lib.hid T16
          refine wpOp_step (i := 17) rfl (fun K hK => ?_)
          have HK : Shut (∀ a w, _ → K a w) := hK
          clear hK ho
          have HS := Lib.hid hs
          have HM := Lib.hid hm
          have HI := Lib.hid hi
          clear hs ha hm hi
          go_simp
          exact HK.out _ _ ⟨upd e 17 true, upd (upd t 105 _) 106 _, rfl, rfl, by rw [upd_self H16.out]; exact HS.out.put ok (i := 17) rfl, (by exact HM.out.mark (by decide) (by decide))⟩
        | 18, ho, hi, ha =>
          obtain rfl : _ = o := Option.some.inj ho
          have hi : e 18 = false := hi
          have T17 : t 106 = .pointer (some ⟨sb, 0, none⟩) := hs.val 17 rfl (ha { on := 17, ground := .data } (by simp) rfl)
          have H17 := Lib.hid T17
          refine wpOp_step (i := 18) rfl (fun K hK => ?_)
          have HK : Shut (∀ a w, _ → K a w) := hK
          clear hK ho
          have HS := Lib.hid hs
          have HM := Lib.hid hm
          have HI := Lib.hid hi
          clear hs ha hm hi
          go_simp
          exact HK.out _ _ ⟨upd e 18 true, upd (upd t 106 _) 107 _, rfl, rfl, by rw [upd_self H17.out]; exact HS.out.put ok (i := 18) rfl, (by exact HM.out.mark (by decide) (by decide))⟩
        | 19, ho, hi, ha =>
          obtain rfl : _ = o := Option.some.inj ho
          have hi : e 19 = false := hi
          have T18 : t 107 = .pointer (some ⟨sb, 1, none⟩) := hs.val 18 rfl (ha { on := 18, ground := .data } (by simp) rfl)
          have H18 := Lib.hid T18
          have q_ : wr.cell? ⟨sb, 1, none⟩ = some (.int .i64 (k : Nat)) := hm.cell HC.out.2.1 (by omega) (by omega)
          refine wpOp_step (i := 19) rfl (fun K hK => ?_)
          have HK : Shut (∀ a w, _ → K a w) := hK
          clear hK ho
          have HS := Lib.hid hs
          have HM := Lib.hid hm
          have HI := Lib.hid hi
          clear hs ha hm hi
          go_simp
          exact HK.out _ _ ⟨upd e 19 true, upd (upd t 107 _) 108 _, rfl, rfl, by rw [upd_self H18.out]; exact HS.out.put ok (i := 19) rfl, (by exact HM.out.mark (by decide) (by decide))⟩
        | 20, ho, hi, ha =>
          obtain rfl : _ = o := Option.some.inj ho
          have hi : e 20 = false := hi
          have T15 : t 104 = .slice (some ⟨g, 0, none⟩) L.length C := hs.val 15 rfl (ha { on := 15, ground := .data } (by simp) rfl)
          have H15 := Lib.hid T15
          have T19 : t 108 = .int .i64 (k : Nat) := hs.val 19 rfl (ha { on := 19, ground := .data } (by simp) rfl)
          have H19 := Lib.hid T19
          refine wpOp_step (i := 20) rfl (fun K hK => ?_)
          have HK : Shut (∀ a w, _ → K a w) := hK
          clear hK ho
          have HS := Lib.hid hs
          have HM := Lib.hid hm
          have HI := Lib.hid hi
          clear hs ha hm hi
          go_simp
          exact HK.out _ _ ⟨upd e 20 true, upd (upd (upd t 104 _) 108 _) 109 _, rfl, rfl, by rw [upd_self H15.out, upd_self H19.out]; exact HS.out.put ok (i := 20) rfl, (by exact HM.out.mark (by decide) (by decide))⟩
        | 21, ho, hi, ha =>
          obtain rfl : _ = o := Option.some.inj ho
          have hi : e 21 = false := hi
          have T20 : t 109 = .pointer (some ⟨g, k * 5, none⟩) := hs.val 20 rfl (ha { on := 20, ground := .data } (by simp) rfl)
          have H20 := Lib.hid T20
          refine wpOp_step (i := 21) rfl (fun K hK => ?_)
          have HK : Shut (∀ a w, _ → K a w) := hK
          clear hK ho
          have HS := Lib.hid hs
          have HM := Lib.hid hm
          have HI := Lib.hid hi
          clear hs ha hm hi
          go_simp
          exact HK.out _ _ ⟨upd e 21 true, upd (upd t 109 _) 110 _, rfl, rfl, by rw [upd_self H20.out]; exact HS.out.put ok (i := 21) rfl, (by exact HM.out.mark (by decide) (by decide))⟩
        | 22, ho, hi, ha =>
          obtain rfl : _ = o := Option.some.inj ho
          have hi : e 22 = false := hi
          have T21 : t 110 = .pointer (some ⟨g, k * 5 + 4, none⟩) := hs.val 21 rfl (ha { on := 21, ground := .data } (by simp) rfl)
          have H21 := Lib.hid T21
          have q_ : wr.cell? ⟨g, k * 5 + 4, none⟩ = some (.int .i64 (x.col : Nat)) := hm.cell HT.out.2.2.2.2 (by omega) (by omega)
          refine wpOp_step (i := 22) rfl (fun K hK => ?_)
          have HK : Shut (∀ a w, _ → K a w) := hK
          clear hK ho
          have HS := Lib.hid hs
          have HM := Lib.hid hm
          have HI := Lib.hid hi
          clear hs ha hm hi
          go_simp
          exact HK.out _ _ ⟨upd e 22 true, upd (upd t 110 _) 111 _, rfl, rfl, by rw [upd_self H21.out]; exact HS.out.put ok (i := 22) rfl, (by exact HM.out.mark (by decide) (by decide))⟩
        | 23, ho, hi, ha =>
          obtain rfl : _ = o := Option.some.inj ho
          have hi : e 23 = false := hi
          have T11 : t 100 = .int .i64 (x.line : Nat) := hs.val 11 rfl (ha { on := 11, ground := .data } (by simp) rfl)
          have H11 := Lib.hid T11
          have T22 : t 111 = .int .i64 (x.col : Nat) := hs.val 22 rfl (ha { on := 22, ground := .data } (by simp) rfl)
          have H22 := Lib.hid T22
          refine wpOp_step (i := 23) rfl (fun K hK => ?_)
          have HK : Shut (∀ a w, _ → K a w) := hK
          clear hK ho
          have HS := Lib.hid hs
          have HM := Lib.hid hm
          have HI := Lib.hid hi
          clear hs ha hm hi
          go_simp
          exact HK.out _ _ ⟨upd e 23 true, upd (upd (upd t 100 _) 111 _) 112 _, rfl, rfl, by rw [upd_self H11.out, upd_self H22.out]; exact HS.out.put ok (i := 23) rfl, (by exact HM.out.mark (by decide) (by decide))⟩
        | 24, ho, hi, ha =>
          obtain rfl : _ = o := Option.some.inj ho
          have hi : e 24 = false := hi
          refine wpOp_step (i := 24) rfl (fun K hK => ?_)
          have HK : Shut (∀ a w, _ → K a w) := hK
          clear hK ho
          have HS := Lib.hid hs
          have HM := Lib.hid hm
          have HI := Lib.hid hi
          clear hs ha hm hi
          go_simp
          exact HK.out _ _ ⟨upd e 24 true, upd t 113 _, rfl, rfl, by exact HS.out.put ok (i := 24) rfl, (by exact HM.out.mark (by decide) (by decide))⟩
        | 25, ho, hi, ha =>
          obtain rfl : _ = o := Option.some.inj ho
          have hi : e 25 = false := hi
          have T24 : t 113 = .pointer (some ⟨sb, 0, none⟩) := hs.val 24 rfl (ha { on := 24, ground := .data } (by simp) rfl)
          have H24 := Lib.hid T24
          refine wpOp_step (i := 25) rfl (fun K hK => ?_)
          have HK : Shut (∀ a w, _ → K a w) := hK
          clear hK ho
          have HS := Lib.hid hs
          have HM := Lib.hid hm
          have HI := Lib.hid hi
          clear hs ha hm hi
          go_simp
          exact HK.out _ _ ⟨upd e 25 true, upd (upd t 113 _) 114 _, rfl, rfl, by rw [upd_self H24.out]; exact HS.out.put ok (i := 25) rfl, (by exact HM.out.mark (by decide) (by decide))⟩
        | 26, ho, hi, ha =>
          obtain rfl : _ = o := Option.some.inj ho
          have hi : e 26 = false := hi
          have T25 : t 114 = .pointer (some ⟨sb, 0, none⟩) := hs.val 25 rfl (ha { on := 25, ground := .data } (by simp) rfl)
          have H25 := Lib.hid T25
          refine wpOp_step (i := 26) rfl (fun K hK => ?_)
          have HK : Shut (∀ a w, _ → K a w) := hK
          clear hK ho
          have HS := Lib.hid hs
          have HM := Lib.hid hm
          have HI := Lib.hid hi
          clear hs ha hm hi
          go_simp
          exact HK.out _ _ ⟨upd e 26 true, upd (upd t 114 _) 115 _, rfl, rfl, by rw [upd_self H25.out]; exact HS.out.put ok (i := 26) rfl, (by exact HM.out.mark (by decide) (by decide))⟩
        | 27, ho, hi, ha =>
          obtain rfl : _ = o := Option.some.inj ho
          have hi : e 27 = false := hi
          have T26 : t 115 = .pointer (some ⟨sb, 2, none⟩) := hs.val 26 rfl (ha { on := 26, ground := .data } (by simp) rfl)
          have H26 := Lib.hid T26
          have q_ : wr.cell? ⟨sb, 2, none⟩ = some (.int .i64 (ec : Nat)) := hm.cell HC.out.2.2.1 (by omega) (by omega)
          refine wpOp_step (i := 27) rfl (fun K hK => ?_)
          have HK : Shut (∀ a w, _ → K a w) := hK
          clear hK ho
          have HS := Lib.hid hs
          have HM := Lib.hid hm
          have HI := Lib.hid hi
          clear hs ha hm hi
          go_simp
          exact HK.out _ _ ⟨upd e 27 true, upd (upd t 115 _) 116 _, rfl, rfl, by rw [upd_self H26.out]; exact HS.out.put ok (i := 27) rfl, (by exact HM.out.mark (by decide) (by decide))⟩
        | 28, ho, hi, ha =>
          obtain rfl : _ = o := Option.some.inj ho
          have hi : e 28 = false := hi
          have T0 : t 89 = .agg #[.int .i64 0, .int .i64 0, .slice none 0 0, .slice none 0 0, .int .i64 0, .slice none 0 0] := hs.val 0 rfl (ha { on := 0, ground := .data } (by simp) rfl)
          have H0 := Lib.hid T0
          have B_ : IBlk w.heap.size 36 (.int .i64 0) (.int .i64 0) (.slice none 0 0) (.slice none 0 0) (.int .i64 0) (.slice none 0 0) wr := hm.res hi HF.out.res
          obtain ⟨z0_, z1_, z2_, z3_, z4_, z5_⟩ := B_.box
          have f0_ := B_.free 0
          have f1_ := B_.free 1
          have f2_ := B_.free 2
          have f3_ := B_.free 3
          have f4_ := B_.free 4
          have f5_ := B_.free 5
          clear B_
          refine wpOp_step (i := 28) rfl (fun K hK => ?_)
          have HK : Shut (∀ a w, _ → K a w) := hK
          clear hK ho
          have HS := Lib.hid hs
          have HM := Lib.hid hm
          have HI := Lib.hid hi
          clear hs ha hm hi
          go_simp
          exact HK.out _ _ ⟨upd e 28 true, (upd t 89 _), rfl, rfl, by rw [upd_self H0.out]; exact HS.out.skip (i := 28) rfl, (by exact HM.out.st1 HI.out)⟩
        | 29, ho, hi, ha =>
          obtain rfl : _ = o := Option.some.inj ho
          have hi : e 29 = false := hi
          have T23 : t 112 = .agg #[.int .i64 (x.line : Nat), .int .i64 (x.col : Nat)] := hs.val 23 rfl (ha { on := 23, ground := .data } (by simp) rfl)
          have H23 := Lib.hid T23
          have DP : Hid (e 28 = true) := ha { on := 28, ground := .chain } (by simp) rfl
          have R_ := hm.row1 hi HF.out.pos (show w.heap.size + 1 ≠ w.heap.size by omega)
          have y0_ : wr.cell? ⟨w.heap.size + 1, 0, none⟩ = some (.int .i64 0) := by unfold World.cell?; simp only [R_]; rfl
          have y1_ : wr.cell? ⟨w.heap.size + 1, 1, none⟩ = some (.int .i64 0) := by unfold World.cell?; simp only [R_]; rfl
          have g0_ : wr.frozen? ⟨w.heap.size + 1, 0, none⟩ = false := frozen_of_row wr _ _ _ _ R_
          have g1_ : wr.frozen? ⟨w.heap.size + 1, 1, none⟩ = false := frozen_of_row wr _ _ _ _ R_
          clear R_
          refine wpOp_step (i := 29) rfl (fun K hK => ?_)
          have HK : Shut (∀ a w, _ → K a w) := hK
          clear hK ho
          have HS := Lib.hid hs
          have HM := Lib.hid hm
          have HI := Lib.hid hi
          clear hs ha hm hi
          go_simp
          exact HK.out _ _ ⟨upd e 29 true, (upd t 112 _), rfl, rfl, by rw [upd_self H23.out]; exact HS.out.skip (i := 29) rfl, (by exact HM.out.st2 DP.out HI.out)⟩
        | 30, ho, hi, ha =>
          obtain rfl : _ = o := Option.some.inj ho
          have hi : e 30 = false := hi
          have T27 : t 116 = .int .i64 (ec : Nat) := hs.val 27 rfl (ha { on := 27, ground := .data } (by simp) rfl)
          have H27 := Lib.hid T27
          refine wpOp_step (i := 30) rfl (fun K hK => ?_)
          have HK : Shut (∀ a w, _ → K a w) := hK
          clear hK ho
          have HS := Lib.hid hs
          have HM := Lib.hid hm
          have HI := Lib.hid hi
          clear hs ha hm hi
          go_simp
          exact HK.out _ _ ⟨upd e 30 true, upd (upd t 116 _) 4 _, rfl, rfl, by rw [upd_self H27.out]; exact HS.out.put ok (i := 30) rfl, (by exact HM.out.mark (by decide) (by decide))⟩
        | k + 31, ho, hi, ha => simp at ho
      case done =>
        rintro lq_ aq_ wr ⟨e, t, rfl, rfl, hs, hm⟩ hr
        have hd := ready_done hr rfl (by decide +kernel)
        have hT4 : t 4 = .int .i64 (ec : Nat) := hs.val 30 rfl (hd 30 (by decide))
        obtain ⟨z1', ⟨e6, e7⟩, z3', z4'⟩ := hm.fin (hd 29 (by decide)) HF.out
        obtain ⟨e0, e1, e2, e3, e4, e5⟩ := z1'.box
        clear z1' hd hr hs hm
        go_wp2
        refine bodyPost_ret (v := .tuple #[.agg #[.int .i64 0, .int .i64 0, .slice none 0 0, .slice none 0 0, .int .i64 0, .slice none 0 0], .agg #[.int .i64 (x.line : Nat), .int .i64 (x.col : Nat)], .int .i64 (ec : Nat)]) (by simp [results, Tryz.results13, go_sem, e0, e1, e2, e3, e4, e5, e6, e7, hT4]) rfl ?_
        rw [hps.out]
        exact ⟨_, rfl, z3', z4'⟩
  · have hkn : ¬ kd = 3 := by omega
    have hk3 : (kd == 3) = false := by simpa using hkn
    clear hx hkd
    go_quiet (fail)
    generalize hWB : WM.drewN _ = WQ
    have FB0 : Fr sb g C L (k, ec) w WQ := by rw [← hWB]; exact FR.out.next (below_drewN (Below.refl _ _) _)
    have MB0 : Mid L w xb (k, ec) WQ := by rw [← hWB]; exact MD.out.next (below_drewN (Below.refl _ _) _)
    clear FR MD hWB c0 c1 c2 t0
    obtain ⟨E, hE1, hE2, hWR⟩ : ∃ E, nF 4 (k, ec) = (k, E) ∧ E ≠ 0 ∧ wholeR L = .no k E := by
      obtain ⟨ax, bbx, A0x, m0x, C0x, A1x, m1x, C1x, zzx, A2x, m2x, C2x, _, hrel⟩ := MB0
      rcases hrel with ⟨he0, I, hRi, hIn⟩ | ⟨he0, hRi⟩
      · have he0 : ec = 0 := he0
        subst he0
        refine ⟨4, rfl, by omega, ?_⟩
        rw [e1, hRi]
        show (tokR L 3 k).nx _ = _
        unfold tokR
        rw [HX0.out]
        simp only
        rw [if_neg hc]
        rfl
      · have he0 : ec ≠ 0 := he0
        exact ⟨ec, if_neg he0, he0, by rw [e1, hRi]; rfl⟩
    have FLE := FL4 (k, ec) _ FB0.st
    rw [hE1] at FLE
    have HF0 := Lib.hid FB0
    clear MB0 FB0 e1 hE1 hc FL4
    go_wp2_with fail
    with_reducible refine FLE.mono ?_
    rintro r WB ⟨rfl, hst, kb⟩
    have FB := Lib.hid (HF0.out.kb kb hst)
    have he2 : ¬ (E : Int) = 0 := by omega
    clear HF0 hst kb FLE hk3 hkn
    have hx := HX0.out
    have hps := Lib.hid (show psOf L (wholeR L) = ⟨zIn, x.line, x.col, E⟩ by rw [hWR]; simp [psOf, hx])
    have hF0 : Fr sb g C L (k, E) w WB.drew := FB.out.next (Below.refl _ _).drew
    obtain ⟨W0, hW0⟩ : ∃ q, q = WB.drew := ⟨_, rfl⟩
    rw [← hW0] at hF0
    have HY : Hid (RM w.heap.size (x.line : Nat) (x.col : Nat) W0 (fun _ => false) WB.drew) := by rw [← hW0]; exact RM.start _ _ _ _
    obtain ⟨c0, c1, c2, _, _⟩ := FB.out.st.cells
    have hs := FB.out.st.size
    have hgl := FB.out.st.toks.1
    simp only at c1 c2
    have HF := Lib.hid hF0
    have HT := Lib.hid (hF0.st.toks.get hx)
    have HC := Lib.hid hF0.st.cells
    have hse := FB.out.sep
    clear FB hWR hx hF0 hW0
    go_wp2
    have he3 : ((E : Int) != 0) = true := by simpa using he2
    rw [he3]
    clear he3
    have ok : (planW1C sb g k L.length C x.line x.col E).ok = true := rfl
    refine region_inv (Inv := fun lq_ aq_ wr => ∃ (e : Nat → Bool) (t : Nat → Value), lq_ = #[e 0, e 1, e 2, e 3, e 4, e 5, e 6, e 7, e 8, e 9, e 10, e 11, e 12, e 13, e 14, e 15, e 16, e 17, e 18, e 19, e 20, e 21, e 22, e 23, e 24, e 25, e 26, e 27, e 28, e 29, e 30] ∧ aq_ = ⟨#[.string s, undef, .pointer (some ⟨w.heap.size, 0, none⟩), .pointer (some ⟨w.heap.size + 1, 0, none⟩), t 4, .pointer (some ⟨w.heap.size + 1 + 1, 0, none⟩), .slice (some ⟨g, 0, none⟩) L.length C, .pointer (some ⟨w3.heap.size, 0, none⟩), .int .i64 0, .pointer (some ⟨sb, 0, none⟩), .bool false, .bool true, .bool false, .bool false, .pointer (some ⟨xb, 0, none⟩), .agg #[.int .i64 0, .int .i64 0, .slice none 0 0, .slice none 0 0, .int .i64 0, .slice none 0 0], .tuple #[.slice (some ⟨g, 0, none⟩) L.length C, .agg #[.int .i64 (pl1 : Int), .int .i64 (pc1 : Int)], .int .i64 0], .string s, .tuple #[.slice (some ⟨g, 0, none⟩) L.length C, .agg #[.int .i64 (pl1 : Int), .int .i64 (pc1 : Int)], .int .i64 0], .slice (some ⟨g, 0, none⟩) L.length C, .agg #[.int .i64 (pl1 : Int), .int .i64 (pc1 : Int)], .int .i64 0, .int .i64 0, .bool false, undef, undef, undef, .slice (some ⟨g, 0, none⟩) L.length C, .agg #[.slice (some ⟨g, 0, none⟩) L.length C, .int .i64 0, .int .i64 0], .pointer (some ⟨sb, 0, none⟩), .pointer (some ⟨sb, 0, none⟩), .bool false, .pointer (some ⟨sb, 0, none⟩), .bool true, .pointer (some ⟨sb, 0, none⟩), .bool false, .pointer (some ⟨sb, 0, none⟩), .bool false, .agg #[.int .i64 0, .int .i64 0, .slice none 0 0, .slice none 0 0, .int .i64 0, .slice none 0 0], .bool false, .bool true, .bool true, .bool true, .bool false, .bool false, .bool false, undef, undef, .bool false, .bool false, undef, undef, .bool false, undef, undef, .pointer (some ⟨sb, 0, none⟩), .pointer (some ⟨sb, 0, none⟩), .pointer (some ⟨sb, 1, none⟩), .bool false, undef, undef, .bool true, .pointer (some ⟨sb, 0, none⟩), .agg #[.int .i64 a, .int .i64 bb, .slice A0 m0 C0, .slice A1 m1 C1, .int .i64 zz, .slice A2 m2 C2], .bool false, undef, undef, .bool false, undef, undef, .pointer (some ⟨sb, 0, none⟩), .pointer (some ⟨sb, 0, none⟩), .pointer (some ⟨sb, 0, none⟩), .slice (some ⟨g, 0, none⟩) L.length C, .pointer (some ⟨sb, 0, none⟩), .pointer (some ⟨sb, 0, none⟩), .pointer (some ⟨sb, 1, none⟩), .int .i64 (k : Int), .pointer (some ⟨g, k * 5, none⟩), .pointer (some ⟨g, k * 5, none⟩), .int .i64 kd, .bool true, .pointer (some ⟨sb, 0, none⟩), .tuple #[], .pointer (some ⟨sb, 0, none⟩), .pointer (some ⟨sb, 0, none⟩), .pointer (some ⟨sb, 2, none⟩), .int .i64 (E : Int), .bool true, t 89, t 90, t 91, t 92, t 93, t 94, t 95, t 96, t 97, t 98, t 99, t 100, t 101, t 102, t 103, t 104, t 105, t 106, t 107, t 108, t 109, t 110, t 111, t 112, t 113, t 114, t 115, t 116, undef, undef], []⟩ ∧ Vals (planW1C sb g k L.length C x.line x.col E) e t ∧ RM w.heap.size (x.line : Nat) (x.col : Nat) W0 e wr) (by kernel_rfl) ?step ?start ?done
    case start => exact ⟨fun _ => false, fun j => if j = 4 then .int .i64 0 else undef, rfl, rfl, Vals.start _ _, HY.out⟩
    case step =>
      rintro lq_ aq_ wr ⟨e, t, rfl, rfl, hs, hm⟩ q_ o ho hi ha
      match q_, ho, hi, ha with
      | 0, ho, hi, ha =>
        obtain rfl : _ = o := Option.some.inj ho
        have hi : e 0 = false := hi
        have B_ : IBlk (w.heap.size + 1 + 1) 36 (.int .i64 0) (.int .i64 0) (.slice none 0 0) (.slice none 0 0) (.int .i64 0) (.slice none 0 0) wr := hm.row HF.out.non (by omega) (by omega)
        obtain ⟨n0_, n1_, n2_, n3_, n4_, n5_⟩ := B_.box
        clear B_
        refine wpOp_step (i := 0) rfl (fun K hK => ?_)
        have HK : Shut (∀ a w, _ → K a w) := hK
        clear hK ho
        have HS := Lib.hid hs
        have HM := Lib.hid hm
        have HI := Lib.hid hi
        clear hs ha hm hi
        go_simp
        exact HK.out _ _ ⟨upd e 0 true, upd t 89 _, rfl, rfl, by exact HS.out.put ok (i := 0) rfl, (by exact HM.out.mark (by decide) (by decide))⟩
      | 1, ho, hi, ha =>
        obtain rfl : _ = o := Option.some.inj ho
        have hi : e 1 = false := hi
        refine wpOp_step (i := 1) rfl (fun K hK => ?_)
        have HK : Shut (∀ a w, _ → K a w) := hK
        clear hK ho
        have HS := Lib.hid hs
        have HM := Lib.hid hm
        have HI := Lib.hid hi
        clear hs ha hm hi
        go_simp
        exact HK.out _ _ ⟨upd e 1 true, upd t 90 _, rfl, rfl, by exact HS.out.put ok (i := 1) rfl, (by exact HM.out.mark (by decide) (by decide))⟩
      | 2, ho, hi, ha =>
        obtain rfl : _ = o := Option.some.inj ho
        have hi : e 2 = false := hi
        have T1 : t 90 = .pointer (some ⟨sb, 0, none⟩) := hs.val 1 rfl (ha { on := 1, ground := .data } (by simp) rfl)
        have H1 := Lib.hid T1
        refine wpOp_step (i := 2) rfl (fun K hK => ?_)
        have HK : Shut (∀ a w, _ → K a w) := hK
        clear hK ho
        have HS := Lib.hid hs
        have HM := Lib.hid hm
        have HI := Lib.hid hi
        clear hs ha hm hi
        go_simp
        exact HK.out _ _ ⟨upd e 2 true, upd (upd t 90 _) 91 _, rfl, rfl, by rw [upd_self H1.out]; exact HS.out.put ok (i := 2) rfl, (by exact HM.out.mark (by decide) (by decide))⟩
      | 3, ho, hi, ha =>
        obtain rfl : _ = o := Option.some.inj ho
        have hi : e 3 = false := hi
        have T2 : t 91 = .pointer (some ⟨sb, 0, none⟩) := hs.val 2 rfl (ha { on := 2, ground := .data } (by simp) rfl)
        have H2 := Lib.hid T2
        refine wpOp_step (i := 3) rfl (fun K hK => ?_)
        have HK : Shut (∀ a w, _ → K a w) := hK
        clear hK ho
        have HS := Lib.hid hs
        have HM := Lib.hid hm
        have HI := Lib.hid hi
        clear hs ha hm hi
        go_simp
        exact HK.out _ _ ⟨upd e 3 true, upd (upd t 91 _) 92 _, rfl, rfl, by rw [upd_self H2.out]; exact HS.out.put ok (i := 3) rfl, (by exact HM.out.mark (by decide) (by decide))⟩
      | 4, ho, hi, ha =>
        obtain rfl : _ = o := Option.some.inj ho
        have hi : e 4 = false := hi
        have T3 : t 92 = .pointer (some ⟨sb, 0, none⟩) := hs.val 3 rfl (ha { on := 3, ground := .data } (by simp) rfl)
        have H3 := Lib.hid T3
        have q_ : wr.cell? ⟨sb, 0, none⟩ = some (.slice (some ⟨g, 0, none⟩) L.length C) := hm.cell HC.out.1 (by omega) (by omega)
        refine wpOp_step (i := 4) rfl (fun K hK => ?_)
        have HK : Shut (∀ a w, _ → K a w) := hK
        clear hK ho
        have HS := Lib.hid hs
        have HM := Lib.hid hm
        have HI := Lib.hid hi
        clear hs ha hm hi
        go_simp
        exact HK.out _ _ ⟨upd e 4 true, upd (upd t 92 _) 93 _, rfl, rfl, by rw [upd_self H3.out]; exact HS.out.put ok (i := 4) rfl, (by exact HM.out.mark (by decide) (by decide))⟩
      | 5, ho, hi, ha =>
        obtain rfl : _ = o := Option.some.inj ho
        have hi : e 5 = false := hi
        refine wpOp_step (i := 5) rfl (fun K hK => ?_)
        have HK : Shut (∀ a w, _ → K a w) := hK
        clear hK ho
        have HS := Lib.hid hs
        have HM := Lib.hid hm
        have HI := Lib.hid hi
        clear hs ha hm hi
        go_simp
        exact HK.out _ _ ⟨upd e 5 true, upd t 94 _, rfl, rfl, by exact HS.out.put ok (i := 5) rfl, (by exact HM.out.mark (by decide) (by decide))⟩
      | 6, ho, hi, ha =>
        obtain rfl : _ = o := Option.some.inj ho
        have hi : e 6 = false := hi
        have T5 : t 94 = .pointer (some ⟨sb, 0, none⟩) := hs.val 5 rfl (ha { on := 5, ground := .data } (by simp) rfl)
        have H5 := Lib.hid T5
        refine wpOp_step (i := 6) rfl (fun K hK => ?_)
        have HK : Shut (∀ a w, _ → K a w) := hK
        clear hK ho
        have HS := Lib.hid hs
        have HM := Lib.hid hm
        have HI := Lib.hid hi
        clear hs ha hm hi
        go_simp
        exact HK.out _ _ ⟨upd e 6 true, upd (upd t 94 _) 95 _, rfl, rfl, by rw [upd_self H5.out]; exact HS.out.put ok (i := 6) rfl, (by exact HM.out.mark (by decide) (by decide))⟩
      | 7, ho, hi, ha =>
        obtain rfl : _ = o := Option.some.inj ho
        have hi : e 7 = false := hi
        have T6 : t 95 = .pointer (some ⟨sb, 0, none⟩) := hs.val 6 rfl (ha { on := 6, ground := .data } (by simp) rfl)
        have H6 := Lib.hid T6
        refine wpOp_step (i := 7) rfl (fun K hK => ?_)
        have HK : Shut (∀ a w, _ → K a w) := hK
        clear hK ho
        have HS := Lib.hid hs
        have HM := Lib.hid hm
        have HI := Lib.hid hi
        clear hs ha hm hi
        go_simp
        exact HK.out _ _ ⟨upd e 7 true, upd (upd t 95 _) 96 _, rfl, rfl, by rw [upd_self H6.out]; exact HS.out.put ok (i := 7) rfl, (by exact HM.out.mark (by decide) (by decide))⟩
      | 8, ho, hi, ha =>
        obtain rfl : _ = o := Option.some.inj ho
        have hi : e 8 = false := hi
        have T7 : t 96 = .pointer (some ⟨sb, 1, none⟩) := hs.val 7 rfl (ha { on := 7, ground := .data } (by simp) rfl)
        have H7 := Lib.hid T7
        have q_ : wr.cell? ⟨sb, 1, none⟩ = some (.int .i64 (k : Nat)) := hm.cell HC.out.2.1 (by omega) (by omega)
        refine wpOp_step (i := 8) rfl (fun K hK => ?_)
        have HK : Shut (∀ a w, _ → K a w) := hK
        clear hK ho
        have HS := Lib.hid hs
        have HM := Lib.hid hm
        have HI := Lib.hid hi
        clear hs ha hm hi
        go_simp
        exact HK.out _ _ ⟨upd e 8 true, upd (upd t 96 _) 97 _, rfl, rfl, by rw [upd_self H7.out]; exact HS.out.put ok (i := 8) rfl, (by exact HM.out.mark (by decide) (by decide))⟩
      | 9, ho, hi, ha =>
        obtain rfl : _ = o := Option.some.inj ho
        have hi : e 9 = false := hi
        have T4 : t 93 = .slice (some ⟨g, 0, none⟩) L.length C := hs.val 4 rfl (ha { on := 4, ground := .data } (by simp) rfl)
        have H4 := Lib.hid T4
        have T8 : t 97 = .int .i64 (k : Nat) := hs.val 8 rfl (ha { on := 8, ground := .data } (by simp) rfl)
        have H8 := Lib.hid T8
        refine wpOp_step (i := 9) rfl (fun K hK => ?_)
        have HK : Shut (∀ a w, _ → K a w) := hK
        clear hK ho
        have HS := Lib.hid hs
        have HM := Lib.hid hm
        have HI := Lib.hid hi
        clear hs ha hm hi
        go_simp
        exact HK.out _ _ ⟨upd e 9 true, upd (upd (upd t 93 _) 97 _) 98 _, rfl, rfl, by rw [upd_self H4.out, upd_self H8.out]; exact HS.out.put ok (i := 9) rfl, (by exact HM.out.mark (by decide) (by decide))⟩
      | 10, ho, hi, ha =>
        obtain rfl : _ = o := Option.some.inj ho
        have hi : e 10 = false := hi
        have T9 : t 98 = .pointer (some ⟨g, k * 5, none⟩) := hs.val 9 rfl (ha { on := 9, ground := .data } (by simp) rfl)
        have H9 := Lib.hid T9
        refine wpOp_step (i := 10) rfl (fun K hK => ?_)
        have HK : Shut (∀ a w, _ → K a w) := hK
        clear hK ho
        have HS := Lib.hid hs
        have HM := Lib.hid hm
        have HI := Lib.hid hi
        clear hs ha hm hi
        go_simp
        exact HK.out _ _ ⟨upd e 10 true, upd (upd t 98 _) 99 _, rfl, rfl, by rw [upd_self H9.out]; exact HS.out.put ok (i := 10) rfl, (by exact HM.out.mark (by decide) (by decide))⟩
      | 11, ho, hi, ha =>
        obtain rfl : _ = o := Option.some.inj ho
        have hi : e 11 = false := hi
        have T10 : t 99 = .pointer (some ⟨g, k * 5 + 3, none⟩) := hs.val 10 rfl (ha { on := 10, ground := .data } (by simp) rfl)
        have H10 := Lib.hid T10
        have q_ : wr.cell? ⟨g, k * 5 + 3, none⟩ = some (.int .i64 (x.line : Nat)) := hm.cell HT.out.2.2.2.1 (by omega) (by omega)
        refine wpOp_step (i := 11) rfl (fun K hK => ?_)
        have HK : Shut (∀ a w, _ → K a w) := hK
        clear hK ho
        have HS := Lib.hid hs
        have HM := Lib.hid hm
        have HI := Lib.hid hi
        clear hs ha hm hi
        go_simp
        exact HK.out _ _ ⟨upd e 11 true, upd (upd t 99 _) 100 _, rfl, rfl, by rw [upd_self H10.out]; exact HS.out.put ok (i := 11) rfl, (by exact HM.out.mark (by decide) (by decide))⟩
      | 12, ho, hi, ha =>
        obtain rfl : _ = o := Option.some.inj ho
        have hi : e 12 = false := hi
        refine wpOp_step (i := 12) rfl (fun K hK => ?_)
        have HK : Shut (∀ a w, _ → K a w) := hK
        clear hK ho
        have HS := Lib.hid hs
        have HM := Lib.hid hm
        have HI := Lib.hid hi
        clear hs ha hm hi
        go_simp
        exact HK.out _ _ ⟨upd e 12 true, upd t 101 _, rfl, rfl, by exact HS.out.put ok (i := 12) rfl, (by exact HM.out.mark (by decide) (by decide))⟩
      | 13, ho, hi, ha =>
        obtain rfl : _ = o := Option.some.inj ho
        have hi : e 13 = false := hi
        have T12 : t 101 = .pointer (some ⟨sb, 0, none⟩) := hs.val 12 rfl (ha { on := 12, ground := .data } (by simp) rfl)
        have H12 := Lib.hid T12
        refine wpOp_step (i := 13) rfl (fun K hK => ?_)
        have HK : Shut (∀ a w, _ → K a w) := hK
        clear hK ho
        have HS := Lib.hid hs
        have HM := Lib.hid hm
        have HI := Lib.hid hi
        clear hs ha hm hi
        go_simp
        exact HK.out _ _ ⟨upd e 13 true, upd (upd t 101 _) 102 _, rfl, rfl, by rw [upd_self H12.out]; exact HS.out.put ok (i := 13) rfl, (by exact HM.out.mark (by decide) (by decide))⟩
      | 14, ho, hi, ha =>
        obtain rfl : _ = o := Option.some.inj ho
        have hi : e 14 = false := hi
        have T13 : t 102 = .pointer (some ⟨sb, 0, none⟩) := hs.val 13 rfl (ha { on := 13, ground := .data } (by simp) rfl)
        have H13 := Lib.hid T13
        refine wpOp_step (i := 14) rfl (fun K hK => ?_)
        have HK : Shut (∀ a w, _ → K a w) := hK
        clear hK ho
        have HS := Lib.hid hs
        have HM := Lib.hid hm
        have HI := Lib.hid hi
        clear hs ha hm hi
        go_simp
        exact HK.out _ _ ⟨upd e 14 true, upd (upd t 102 _) 103 _, rfl, rfl, by rw [upd_self H13.out]; exact HS.out.put ok (i := 14) rfl, (by exact HM.out.mark (by decide) (by decide))⟩
      | 15, ho, hi, ha =>
        obtain rfl : _ = o := Option.some.inj ho
        have hi : e 15 = false := hi
        have T14 : t 103 = .pointer (some ⟨sb, 0, none⟩) := hs.val 14 rfl (ha { on := 14, ground := .data } (by simp) rfl)
        have H14 := Lib.hid T14
        have q_ : wr.cell? ⟨sb, 0, none⟩ = some (.slice (some ⟨g, 0, none⟩) L.length C) := hm.cell HC.out.1 (by omega) (by omega)
        refine wpOp_step (i := 15) rfl (fun K hK => ?_)
        have HK : Shut (∀ a w, _ → K a w) := hK
        clear hK ho
        have HS := Lib.hid hs
        have HM := Lib.hid hm
        have HI := Lib.hid hi
        clear hs ha hm hi
        go_simp
        exact HK.out _ _ ⟨upd e 15 true, upd (upd t 103 _) 104 _, rfl, rfl, by rw [upd_self H14.out]; exact HS.out.put ok (i := 15) rfl, (by exact HM.out.mark (by decide) (by decide))⟩
      | 16, ho, hi, ha =>
        obtain rfl : _ = o := Option.some.inj ho
        have hi : e 16 = false := hi
        refine wpOp_step (i := 16) rfl (fun K hK => ?_)
        have HK : Shut (∀ a w, _ → K a w) := hK
        clear hK ho
        have HS := Lib.hid hs
        have HM := Lib.hid hm
        have HI := Lib.hid hi
        clear hs ha hm hi
        go_simp
        exact HK.out _ _ ⟨upd e 16 true, upd t 105 _, rfl, rfl, by exact HS.out.put ok (i := 16) rfl, (by exact HM.out.mark (by decide) (by decide))⟩
      | 17, ho, hi, ha =>
        obtain rfl : _ = o := Option.some.inj ho
        have hi : e 17 = false := hi
        have T16 : t 105 = .pointer (some ⟨sb, 0, none⟩) := hs.val 16 rfl (ha { on := 16, ground := .data } (by simp) rfl)
        have H16 := Lib.hid T16
        refine wpOp_step (i := 17) rfl (fun K hK => ?_)
        have HK : Shut (∀ a w, _ → K a w) := hK
        clear hK ho
        have HS := Lib.hid hs
        have HM := Lib.hid hm
        have HI := Lib.hid hi
        clear hs ha hm hi
        go_simp
        exact HK.out _ _ ⟨upd e 17 true, upd (upd t 105 _) 106 _, rfl, rfl, by rw [upd_self H16.out]; exact HS.out.put ok (i := 17) rfl, (by exact HM.out.mark (by decide) (by decide))⟩
      | 18, ho, hi, ha =>
        obtain rfl : _ = o := Option.some.inj ho
        have hi : e 18 = false := hi
        have T17 : t 106 = .pointer (some ⟨sb, 0, none⟩) := hs.val 17 rfl (ha { on := 17, ground := .data } (by simp) rfl)
        have H17 := Lib.hid T17
        refine wpOp_step (i := 18) rfl (fun K hK => ?_)
        have HK : Shut (∀ a w, _ → K a w) := hK
        clear hK ho
        have HS := Lib.hid hs
        have HM := Lib.hid hm
        have HI := Lib.hid hi
        clear hs ha hm hi
        go_simp
        exact HK.out _ _ ⟨upd e 18 true, upd (upd t 106 _) 107 _, rfl, rfl, by rw [upd_self H17.out]; exact HS.out.put ok (i := 18) rfl, (by exact HM.out.mark (by decide) (by decide))⟩
      | 19, ho, hi, ha =>
        obtain rfl : _ = o := Option.some.inj ho
        have hi : e 19 = false := hi
        have T18 : t 107 = .pointer (some ⟨sb, 1, none⟩) := hs.val 18 rfl (ha { on := 18, ground := .data } (by simp) rfl)
        have H18 := Lib.hid T18
        have q_ : wr.cell? ⟨sb, 1, none⟩ = some (.int .i64 (k : Nat)) := hm.cell HC.out.2.1 (by omega) (by omega)
        refine wpOp_step (i := 19) rfl (fun K hK => ?_)
        have HK : Shut (∀ a w, _ → K a w) := hK
        clear hK ho
        have HS := Lib.hid hs
        have HM := Lib.hid hm
        have HI := Lib.hid hi
        clear hs ha hm hi
        go_simp
        exact HK.out _ _ ⟨upd e 19 true, upd (upd t 107 _) 108 _, rfl, rfl, by rw [upd_self H18.out]; exact HS.out.put ok (i := 19) rfl, (by exact HM.out.mark (by decide) (by decide))⟩
      | 20, ho, hi, ha =>
        obtain rfl : _ = o := Option.some.inj ho
        have hi : e 20 = false := hi
        have T15 : t 104 = .slice (some ⟨g, 0, none⟩) L.length C := hs.val 15 rfl (ha { on := 15, ground := .data } (by simp) rfl)
        have H15 := Lib.hid T15
        have T19 : t 108 = .int .i64 (k : Nat) := hs.val 19 rfl (ha { on := 19, ground := .data } (by simp) rfl)
        have H19 := Lib.hid T19
        refine wpOp_step (i := 20) rfl (fun K hK => ?_)
        have HK : Shut (∀ a w, _ → K a w) := hK
        clear hK ho
        have HS := Lib.hid hs
        have HM := Lib.hid hm
        have HI := Lib.hid hi
        clear hs ha hm hi
        go_simp
        exact HK.out _ _ ⟨upd e 20 true, upd (upd (upd t 104 _) 108 _) 109 _, rfl, rfl, by rw [upd_self H15.out, upd_self H19.out]; exact HS.out.put ok (i := 20) rfl, (by exact HM.out.mark (by decide) (by decide))⟩
      | 21, ho, hi, ha =>
        obtain rfl : _ = o := Option.some.inj ho
        have hi : e 21 = false := hi
        have T20 : t 109 = .pointer (some ⟨g, k * 5, none⟩) := hs.val 20 rfl (ha { on := 20, ground := .data } (by simp) rfl)
        have H20 := Lib.hid T20
        refine wpOp_step (i := 21) rfl (fun K hK => ?_)
        have HK : Shut (∀ a w, _ → K a w) := hK
        clear hK ho
        have HS := Lib.hid hs
        have HM := Lib.hid hm
        have HI := Lib.hid hi
        clear hs ha hm hi
        go_simp
        exact HK.out _ _ ⟨upd e 21 true, upd (upd t 109 _) 110 _, rfl, rfl, by rw [upd_self H20.out]; exact HS.out.put ok (i := 21) rfl, (by exact HM.out.mark (by decide) (by decide))⟩
      | 22, ho, hi, ha =>
        obtain rfl : _ = o := Option.some.inj ho
        have hi : e 22 = false := hi
        have T21 : t 110 = .pointer (some ⟨g, k * 5 + 4, none⟩) := hs.val 21 rfl (ha { on := 21, ground := .data } (by simp) rfl)
        have H21 := Lib.hid T21
        have q_ : wr.cell? ⟨g, k * 5 + 4, none⟩ = some (.int .i64 (x.col : Nat)) := hm.cell HT.out.2.2.2.2 (by omega) (by omega)
        refine wpOp_step (i := 22) rfl (fun K hK => ?_)
        have HK : Shut (∀ a w, _ → K a w) := hK
        clear hK ho
        have HS := Lib.hid hs
        have HM := Lib.hid hm
        have HI := Lib.hid hi
        clear hs ha hm hi
        go_simp
        exact HK.out _ _ ⟨upd e 22 true, upd (upd t 110 _) 111 _, rfl, rfl, by rw [upd_self H21.out]; exact HS.out.put ok (i := 22) rfl, (by exact HM.out.mark (by decide) (by decide))⟩
      | 23, ho, hi, ha =>
        obtain rfl : _ = o := Option.some.inj ho
        have hi : e 23 = false := hi
        have T11 : t 100 = .int .i64 (x.line : Nat) := hs.val 11 rfl (ha { on := 11, ground := .data } (by simp) rfl)
        have H11 := Lib.hid T11
        have T22 : t 111 = .int .i64 (x.col : Nat) := hs.val 22 rfl (ha { on := 22, ground := .data } (by simp) rfl)
        have H22 := Lib.hid T22
        refine wpOp_step (i := 23) rfl (fun K hK => ?_)
        have HK : Shut (∀ a w, _ → K a w) := hK
        clear hK ho
        have HS := Lib.hid hs
        have HM := Lib.hid hm
        have HI := Lib.hid hi
        clear hs ha hm hi
        go_simp
        exact HK.out _ _ ⟨upd e 23 true, upd (upd (upd t 100 _) 111 _) 112 _, rfl, rfl, by rw [upd_self H11.out, upd_self H22.out]; exact HS.out.put ok (i := 23) rfl, (by exact HM.out.mark (by decide) (by decide))⟩
      | 24, ho, hi, ha =>
        obtain rfl : _ = o := Option.some.inj ho
        have hi : e 24 = false := hi
        refine wpOp_step (i := 24) rfl (fun K hK => ?_)
        have HK : Shut (∀ a w, _ → K a w) := hK
        clear hK ho
        have HS := Lib.hid hs
        have HM := Lib.hid hm
        have HI := Lib.hid hi
        clear hs ha hm hi
        go_simp
        exact HK.out _ _ ⟨upd e 24 true, upd t 113 _, rfl, rfl, by exact HS.out.put ok (i := 24) rfl, (by exact HM.out.mark (by decide) (by decide))⟩
      | 25, ho, hi, ha =>
        obtain rfl : _ = o := Option.some.inj ho
        have hi : e 25 = false := hi
        have T24 : t 113 = .pointer (some ⟨sb, 0, none⟩) := hs.val 24 rfl (ha { on := 24, ground := .data } (by simp) rfl)
        have H24 := Lib.hid T24
        refine wpOp_step (i := 25) rfl (fun K hK => ?_)
        have HK : Shut (∀ a w, _ → K a w) := hK
        clear hK ho
        have HS := Lib.hid hs
        have HM := Lib.hid hm
        have HI := Lib.hid hi
        clear hs ha hm hi
        go_simp
        exact HK.out _ _ ⟨upd e 25 true, upd (upd t 113 _) 114 _, rfl, rfl, by rw [upd_self H24.out]; exact HS.out.put ok (i := 25) rfl, (by exact HM.out.mark (by decide) (by decide))⟩
      | 26, ho, hi, ha =>
        obtain rfl : _ = o := Option.some.inj ho
        have hi : e 26 = false := hi
        have T25 : t 114 = .pointer (some ⟨sb, 0, none⟩) := hs.val 25 rfl (ha { on := 25, ground := .data } (by simp) rfl)
        have H25 := Lib.hid T25
        refine wpOp_step (i := 26) rfl (fun K hK => ?_)
        have HK : Shut (∀ a w, _ → K a w) := hK
        clear hK ho
        have HS := Lib.hid hs
        have HM := Lib.hid hm
        have HI := Lib.hid hi
        clear hs ha hm hi
        go_simp
        exact HK.out _ _ ⟨upd e 26 true, upd (upd t 114 _) 115 _, rfl, rfl, by rw [upd_self H25.out]; exact HS.out.put ok (i := 26) rfl, (by exact HM.out.mark (by decide) (by decide))⟩
      | 27, ho, hi, ha =>
        obtain rfl : _ = o := Option.some.inj ho
        have hi : e 27 = false := hi
        have T26 : t 115 = .pointer (some ⟨sb, 2, none⟩) := hs.val 26 rfl (ha { on := 26, ground := .data } (by simp) rfl)
        have H26 := Lib.hid T26
        have q_ : wr.cell? ⟨sb, 2, none⟩ = some (.int .i64 (E : Nat)) := hm.cell HC.out.2.2.1 (by omega) (by omega)
        refine wpOp_step (i := 27) rfl (fun K hK => ?_)
        have HK : Shut (∀ a w, _ → K a w) := hK
        clear hK ho
        have HS := Lib.hid hs
        have HM := Lib.hid hm
        have HI := Lib.hid hi
        clear hs ha hm hi
        go_simp
        exact HK.out _ _ ⟨upd e 27 true, upd (upd t 115 _) 116 _, rfl, rfl, by rw [upd_self H26.out]; exact HS.out.put ok (i := 27) rfl, (by exact HM.out.mark (by decide) (by decide))⟩
      | 28, ho, hi, ha =>
        obtain rfl : _ = o := Option.some.inj ho
        have hi : e 28 = false := hi
        have T0 : t 89 = .agg #[.int .i64 0, .int .i64 0, .slice none 0 0, .slice none 0 0, .int .i64 0, .slice none 0 0] := hs.val 0 rfl (ha { on := 0, ground := .data } (by simp) rfl)
        have H0 := Lib.hid T0
        have B_ : IBlk w.heap.size 36 (.int .i64 0) (.int .i64 0) (.slice none 0 0) (.slice none 0 0) (.int .i64 0) (.slice none 0 0) wr := hm.res hi HF.out.res
        obtain ⟨z0_, z1_, z2_, z3_, z4_, z5_⟩ := B_.box
        have f0_ := B_.free 0
        have f1_ := B_.free 1
        have f2_ := B_.free 2
        have f3_ := B_.free 3
        have f4_ := B_.free 4
        have f5_ := B_.free 5
        clear B_
        refine wpOp_step (i := 28) rfl (fun K hK => ?_)
        have HK : Shut (∀ a w, _ → K a w) := hK
        clear hK ho
        have HS := Lib.hid hs
        have HM := Lib.hid hm
        have HI := Lib.hid hi
        clear hs ha hm hi
        go_simp
        exact HK.out _ _ ⟨upd e 28 true, (upd t 89 _), rfl, rfl, by rw [upd_self H0.out]; exact HS.out.skip (i := 28) rfl, (by exact HM.out.st1 HI.out)⟩
      | 29, ho, hi, ha =>
        obtain rfl : _ = o := Option.some.inj ho
        have hi : e 29 = false := hi
        have T23 : t 112 = .agg #[.int .i64 (x.line : Nat), .int .i64 (x.col : Nat)] := hs.val 23 rfl (ha { on := 23, ground := .data } (by simp) rfl)
        have H23 := Lib.hid T23
        have DP : Hid (e 28 = true) := ha { on := 28, ground := .chain } (by simp) rfl
        have R_ := hm.row1 hi HF.out.pos (show w.heap.size + 1 ≠ w.heap.size by omega)
        have y0_ : wr.cell? ⟨w.heap.size + 1, 0, none⟩ = some (.int .i64 0) := by unfold World.cell?; simp only [R_]; rfl
        have y1_ : wr.cell? ⟨w.heap.size + 1, 1, none⟩ = some (.int .i64 0) := by unfold World.cell?; simp only [R_]; rfl
        have g0_ : wr.frozen? ⟨w.heap.size + 1, 0, none⟩ = false := frozen_of_row wr _ _ _ _ R_
        have g1_ : wr.frozen? ⟨w.heap.size + 1, 1, none⟩ = false := frozen_of_row wr _ _ _ _ R_
        clear R_
        refine wpOp_step (i := 29) rfl (fun K hK => ?_)
        have HK : Shut (∀ a w, _ → K a w) := hK
        clear hK ho
        have HS := Lib.hid hs
        have HM := Lib.hid hm
        have HI := Lib.hid hi
        clear hs ha hm hi
        go_simp
        exact HK.out _ _ ⟨upd e 29 true, (upd t 112 _), rfl, rfl, by rw [upd_self H23.out]; exact HS.out.skip (i := 29) rfl, (by exact HM.out.st2 DP.out HI.out)⟩
      | 30, ho, hi, ha =>
        obtain rfl : _ = o := Option.some.inj ho
        have hi : e 30 = false := hi
        have T27 : t 116 = .int .i64 (E : Nat) := hs.val 27 rfl (ha { on := 27, ground := .data } (by simp) rfl)
        have H27 := Lib.hid T27
        refine wpOp_step (i := 30) rfl (fun K hK => ?_)
        have HK : Shut (∀ a w, _ → K a w) := hK
        clear hK ho
        have HS := Lib.hid hs
        have HM := Lib.hid hm
        have HI := Lib.hid hi
        clear hs ha hm hi
        go_simp
        exact HK.out _ _ ⟨upd e 30 true, upd (upd t 116 _) 4 _, rfl, rfl, by rw [upd_self H27.out]; exact HS.out.put ok (i := 30) rfl, (by exact HM.out.mark (by decide) (by decide))⟩
      | k + 31, ho, hi, ha => simp at ho
    case done =>
      rintro lq_ aq_ wr ⟨e, t, rfl, rfl, hs, hm⟩ hr
      have hd := ready_done hr rfl (by decide +kernel)
      have hT4 : t 4 = .int .i64 (E : Nat) := hs.val 30 rfl (hd 30 (by decide))
      obtain ⟨z1', ⟨e6, e7⟩, z3', z4'⟩ := hm.fin (hd 29 (by decide)) HF.out
      obtain ⟨e0, e1, e2, e3, e4, e5⟩ := z1'.box
      clear z1' hd hr hs hm
      go_wp2
      refine bodyPost_ret (v := .tuple #[.agg #[.int .i64 0, .int .i64 0, .slice none 0 0, .slice none 0 0, .int .i64 0, .slice none 0 0], .agg #[.int .i64 (x.line : Nat), .int .i64 (x.col : Nat)], .int .i64 (E : Nat)]) (by simp [results, Tryz.results13, go_sem, e0, e1, e2, e3, e4, e5, e6, e7, hT4]) rfl ?_
      rw [hps.out]
      exact ⟨_, rfl, z3', z4'⟩
end Go.Proofs.YtbadingdklenhaaGreatDoor

/-
  What the document's Parse does with a text of the way of a tsp.
-/
namespace Go.Proofs.YtbadingdklenhaaGreatDoor
set_option maxRecDepth 100000
open Go.RowKit

def planW2B (sb g k m C l c q : Nat) : Plan := { ks := [0, 0, 0, 0, 0, 0, 0, 0, 0, 0, 0, 0, 0, 0, 0, 0, 0, 0, 0, 0, 0, 0, 0, 0, 0, 0, 0, 0, 2, 2, 0], ds := [89, 90, 91, 92, 93, 94, 95, 96, 97, 98, 99, 100, 101, 102, 103, 104, 105, 106, 107, 108, 109, 110, 111, 112, 113, 114, 115, 116, 0, 0, 4], vs := [.agg #[.int .i64 0, .int .i64 0, .slice none 0 0, .slice none 0 0, .int .i64 0, .slice none 0 0], .pointer (some ⟨sb, 0, none⟩), .pointer (some ⟨sb, 0, none⟩), .pointer (some ⟨sb, 0, none⟩), .slice (some ⟨g, 0, none⟩) m C, .pointer (some ⟨sb, 0, none⟩), .pointer (some ⟨sb, 0, none⟩), .pointer (some ⟨sb, 1, none⟩), .int .i64 (k : Nat), .pointer (some ⟨g, k * 5, none⟩), .pointer (some ⟨g, k * 5 + 3, none⟩), .int .i64 (l : Nat), .pointer (some ⟨sb, 0, none⟩), .pointer (some ⟨sb, 0, none⟩), .pointer (some ⟨sb, 0, none⟩), .slice (some ⟨g, 0, none⟩) m C, .pointer (some ⟨sb, 0, none⟩), .pointer (some ⟨sb, 0, none⟩), .pointer (some ⟨sb, 1, none⟩), .int .i64 (k : Nat), .pointer (some ⟨g, k * 5, none⟩), .pointer (some ⟨g, k * 5 + 4, none⟩), .int .i64 (c : Nat), .agg #[.int .i64 (l : Nat), .int .i64 (c : Nat)], .pointer (some ⟨sb, 0, none⟩), .pointer (some ⟨sb, 0, none⟩), .pointer (some ⟨sb, 2, none⟩), .int .i64 (q : Nat), undef, undef, .int .i64 (q : Nat)], ss := [0, 0, 0, 0, 0, 0, 0, 0, 0, 0, 0, 0, 0, 0, 0, 0, 0, 0, 0, 0, 0, 0, 0, 0, 0, 0, 0, 0, 0, 0, 0], zs := [#[], #[], #[], #[], #[], #[], #[], #[], #[], #[], #[], #[], #[], #[], #[], #[], #[], #[], #[], #[], #[], #[], #[], #[], #[], #[], #[], #[], #[], #[], #[]], fs := [#[], #[], #[], #[], #[], #[], #[], #[], #[], #[], #[], #[], #[], #[], #[], #[], #[], #[], #[], #[], #[], #[], #[], #[], #[], #[], #[], #[], #[], #[], #[]], ts := [0, 0, 0, 0, 0, 0, 0, 0, 0, 0, 0, 0, 0, 0, 0, 0, 0, 0, 0, 0, 0, 0, 0, 0, 0, 0, 0, 0, 0, 0, 0] }
def planW2C (sb g k m C l c q : Nat) : Plan := { ks := [0, 0, 0, 0, 0, 0, 0, 0, 0, 0, 0, 0, 0, 0, 0, 0, 0, 0, 0, 0, 0, 0, 0, 0, 0, 0, 0, 0, 2, 2, 0], ds := [89, 90, 91, 92, 93, 94, 95, 96, 97, 98, 99, 100, 101, 102, 103, 104, 105, 106, 107, 108, 109, 110, 111, 112, 113, 114, 115, 116, 0, 0, 4], vs := [.agg #[.int .i64 0, .int .i64 0, .slice none 0 0, .slice none 0 0, .int .i64 0, .slice none 0 0], .pointer (some ⟨sb, 0, none⟩), .pointer (some ⟨sb, 0, none⟩), .pointer (some ⟨sb, 0, none⟩), .slice (some ⟨g, 0, none⟩) m C, .pointer (some ⟨sb, 0, none⟩), .pointer (some ⟨sb, 0, none⟩), .pointer (some ⟨sb, 1, none⟩), .int .i64 (k : Nat), .pointer (some ⟨g, k * 5, none⟩), .pointer (some ⟨g, k * 5 + 3, none⟩), .int .i64 (l : Nat), .pointer (some ⟨sb, 0, none⟩), .pointer (some ⟨sb, 0, none⟩), .pointer (some ⟨sb, 0, none⟩), .slice (some ⟨g, 0, none⟩) m C, .pointer (some ⟨sb, 0, none⟩), .pointer (some ⟨sb, 0, none⟩), .pointer (some ⟨sb, 1, none⟩), .int .i64 (k : Nat), .pointer (some ⟨g, k * 5, none⟩), .pointer (some ⟨g, k * 5 + 4, none⟩), .int .i64 (c : Nat), .agg #[.int .i64 (l : Nat), .int .i64 (c : Nat)], .pointer (some ⟨sb, 0, none⟩), .pointer (some ⟨sb, 0, none⟩), .pointer (some ⟨sb, 2, none⟩), .int .i64 (q : Nat), undef, undef, .int .i64 (q : Nat)], ss := [0, 0, 0, 0, 0, 0, 0, 0, 0, 0, 0, 0, 0, 0, 0, 0, 0, 0, 0, 0, 0, 0, 0, 0, 0, 0, 0, 0, 0, 0, 0], zs := [#[], #[], #[], #[], #[], #[], #[], #[], #[], #[], #[], #[], #[], #[], #[], #[], #[], #[], #[], #[], #[], #[], #[], #[], #[], #[], #[], #[], #[], #[], #[]], fs := [#[], #[], #[], #[], #[], #[], #[], #[], #[], #[], #[], #[], #[], #[], #[], #[], #[], #[], #[], #[], #[], #[], #[], #[], #[], #[], #[], #[], #[], #[], #[]], ts := [0, 0, 0, 0, 0, 0, 0, 0, 0, 0, 0, 0, 0, 0, 0, 0, 0, 0, 0, 0, 0, 0, 0, 0, 0, 0, 0, 0, 0, 0, 0] }
set_option maxHeartbeats 8000000 in
theorem rparse_w2 (s : ByteArray) (he : (lexP s.data.toList).err = 0) (h1 : isW (lexP s.data.toList).toks kW 0 = false) (h2 : isW (lexP s.data.toList).toks aW 0 = false) (h3 : isW (lexP s.data.toList).toks tW 0 = true) (w : World) : Calls Tryz.prog 13 #[.string s] w (IsPs (parseL s.data.toList) w) := by
  have LX := fun W => rlex_any s W
  obtain ⟨W2, hW2⟩ : ∃ q, q = ((w.alloc (.cells #[.int .i64 0, .int .i64 0, .slice none 0 0, .slice none 0 0, .int .i64 0, .slice none 0 0] 36)).alloc (.cells #[.int .i64 0, .int .i64 0] 47)).alloc (.cells #[.int .i64 0, .int .i64 0, .slice none 0 0, .slice none 0 0, .int .i64 0, .slice none 0 0] 36) := ⟨_, rfl⟩
  have hsz : W2.heap.size = w.heap.size + 3 := by rw [hW2]; simp
  have hb2 : Below w.heap.size w W2 := by
    rw [hW2]
    exact ((new_below w _).alloc (by simp) _).alloc (by simp; omega) _
  have hI2 : IBlk w.heap.size 36 (.int .i64 0) (.int .i64 0) (.slice none 0 0) (.slice none 0 0) (.int .i64 0) (.slice none 0 0) W2 := by
    rw [hW2]
    exact ((iblk_new w _ _ _ _ _ _ _).next (new_below _ _)).next (new_below _ _)
  have hP2 : W2.heap[w.heap.size + 1]? = some (.cells #[.int .i64 0, .int .i64 0] 47 (0, 0)) := by
    rw [hW2]
    rw [Below.heap_alloc _ _ _ (by simp)]
    have := heap_alloc_new (w.alloc (.cells #[.int .i64 0, .int .i64 0, .slice none 0 0, .slice none 0 0, .int .i64 0, .slice none 0 0] 36)) (.cells #[.int .i64 0, .int .i64 0] 47)
    rw [World.size_alloc] at this
    exact this
  have hN2 : IBlk (w.heap.size + 1 + 1) 36 (.int .i64 0) (.int .i64 0) (.slice none 0 0) (.slice none 0 0) (.int .i64 0) (.slice none 0 0) W2 := by
    rw [hW2]
    have := iblk_new ((w.alloc (.cells #[.int .i64 0, .int .i64 0, .slice none 0 0, .slice none 0 0, .int .i64 0, .slice none 0 0] 36)).alloc (.cells #[.int .i64 0, .int .i64 0] 47)) (.int .i64 0) (.int .i64 0) (.slice none 0 0) (.slice none 0 0) (.int .i64 0) (.slice none 0 0) 36
    rw [World.size_alloc, World.size_alloc] at this
    exact this
  have ep : parseL s.data.toList = psOf (lexP s.data.toList).toks (wholeR (lexP s.data.toList).toks) := by unfold parseL; exact if_pos he
  have hE := endL_of he
  have hcnt := lexP_cnt s.data.toList
  rw [ep]
  generalize hR : lexP s.data.toList = RS at *
  obtain ⟨L, pl1, pc1, er⟩ := RS
  simp only at *
  subst he
  clear hR ep
  go_enter Tryz.func13, Tryz.ntmps13
  go_wp2_with fail
  rw [← hW2]
  with_reducible refine (LX _).mono ?_
  rintro e w3 ⟨v, rfl, own, b3⟩
  have hT := toks_of_own own
  obtain ⟨A, C, rfl, hc1, hc2, hg⟩ := hT
  obtain ⟨g, rfl, hT⟩ := hg hE.pos
  have hs3 := b3.size
  have hgB : w.heap.size + 1 + 1 < g := by
    have := (own.lt g rfl).1
    omega
  have nb4 := new_below w3 (.cells #[.int .i64 (pl1 : Nat), .int .i64 (pc1 : Nat)] 47)
  have nb5 := new_below (w3.alloc (.cells #[.int .i64 (pl1 : Nat), .int .i64 (pc1 : Nat)] 47)) (.cells #[.slice (some ⟨g, 0, none⟩) L.length C, .int .i64 0, .int .i64 0] 89)
  have hn5 := heap_alloc_new (w3.alloc (.cells #[.int .i64 (pl1 : Nat), .int .i64 (pc1 : Nat)] 47)) (.cells #[.slice (some ⟨g, 0, none⟩) L.length C, .int .i64 0, .int .i64 0] 89)
  rw [World.size_alloc] at hn5
  obtain ⟨W5, hW5⟩ : ∃ q, q = (w3.alloc (.cells #[.int .i64 (pl1 : Nat), .int .i64 (pc1 : Nat)] 47)).alloc (.cells #[.slice (some ⟨g, 0, none⟩) L.length C, .int .i64 0, .int .i64 0] 89) := ⟨_, rfl⟩
  rw [← hW5] at nb5 hn5
  have b35 : Below w3.heap.size w3 W5 := nb4.trans (nb5.mono nb4.size)
  have b25 := b3.trans (b35.mono b3.size)
  have hF5 : Fr (w3.heap.size + 1) g C L (0, 0) w W5 :=
    ⟨hI2.next b25, (b25.block _ (by omega)).trans hP2, hN2.next b25, ⟨hn5, hT.next b35, by have := hT.1; omega, hc1, hc2, hE.pos⟩, hb2.trans (b25.mono (by omega)), by omega, hgB⟩
  obtain ⟨sb, hsb⟩ : ∃ x, x = w3.heap.size + 1 := ⟨_, rfl⟩
  rw [← hsb] at hF5
  have HF := Lib.hid hF5
  have IK := fun W hW => ris_any sb g C L (0, 0) ⟨#[107, 110, 97, 112, 115, 97, 99, 107]⟩ kW rfl W hW
  have IA := fun W hW => ris_any sb g C L (0, 0) ⟨#[97, 115, 115, 105, 103, 110, 109, 101, 110, 116]⟩ aW rfl W hW
  have IT := fun W hW => ris_any sb g C L (0, 0) ⟨#[116, 115, 112]⟩ tW rfl W hW
  have IC := fun W hW => ris_any sb g C L (0, 0) ⟨#[99, 111, 118, 101, 114]⟩ cW rfl W hW
  simp only at IK IA IT IC
  have FL := fun q W hW => rfail_any sb g C L q 4 4 rfl W hW
  have FL4 := fun q W hW => rfail_any sb g C L q 4 4 rfl W hW
  have KN := fun W hW => rknap_any sb g C L hE 1 W hW
  have CV := fun W hW => rcover_any sb g C L hE hcnt 1 W hW
  have SQ1 := fun W hW => rsquare_any sb g C L hE 1 1 W hW
  have SQ2 := fun W hW => rsquare_any sb g C L hE 1 2 W hW
  clear hI2 hP2 hN2 b3 hb2 own hg hT hW2 LX hF5 nb4 nb5 b35 b25 hn5
  go_wp2_with fail
  rw [← hW5, ← hsb]
  clear hW5 hsb
  have F5 := HF
  clear HF
  have h4 : isW L cW 0 = false := isW_other h3 (by decide)
  rw [h1] at IK
  rw [h2] at IA
  rw [h3] at IT
  rw [h4] at IC
  have hR : instR L = squareR L 2 1 := by unfold instR; rw [if_neg (by rw [h1]; simp), if_neg (by rw [h2]; simp), if_pos h3]
  have hg1 := isW_goes hE h3
  clear KN SQ1 CV FL
  with_reducible refine (IK _ F5.out.st).mono ?_
  rintro e v6 ⟨rfl, b6⟩
  have F6 := Lib.hid (F5.out.next b6)
  clear F5 b6 IK
  go_wp2_with fail
  with_reducible refine (IA _ F6.out.st).mono ?_
  rintro e v7 ⟨rfl, b7⟩
  have F7 := Lib.hid (F6.out.next b7)
  clear F6 b7 IA
  go_wp2_with fail
  with_reducible refine (IT _ F7.out.st).mono ?_
  rintro e v8 ⟨rfl, b8⟩
  have F8 := Lib.hid (F7.out.next b8)
  clear F7 b8 IT
  go_wp2_with fail
  with_reducible refine (IC _ F8.out.st).mono ?_
  rintro e v9 ⟨rfl, b9⟩
  have F9 := Lib.hid (F8.out.next b9)
  clear F8 b9 IC
  obtain ⟨n0, n1, n2, n3, n4, n5⟩ := F9.out.non.box
  obtain ⟨c0, c1, c2, f1, f2⟩ := F9.out.st.cells
  have hs := F9.out.st.size
  have hgl := F9.out.st.toks.1
  have hse := F9.out.sep
  simp only at c1 c2
  have F9N := F9.out.non.lt
  obtain ⟨xb, hxb⟩ : ∃ x, x = v9.heap.size := ⟨_, rfl⟩
  have F10 := F9.out.kb ((Kb.refl sb _).store (a := ⟨sb, 1, none⟩) rfl (.int .i64 ((1 : Nat) : Int))) (F9.out.st.goes (k := 1) hg1)
  rw [show ((1 : Nat) : Int) = 1 from rfl] at F10
  have hsz9 : (v9.setCell ⟨sb, 1, none⟩ (.int .i64 1)).heap.size = v9.heap.size := by simp [World.setCell]
  have nb := new_below (v9.setCell ⟨sb, 1, none⟩ (.int .i64 1)) (.cells #[.int .i64 0, .int .i64 0, .slice none 0 0, .slice none 0 0, .int .i64 0, .slice none 0 0] 36)
  have F11 := F10.next nb
  have X11 := iblk_new (v9.setCell ⟨sb, 1, none⟩ (.int .i64 1)) (.int .i64 0) (.int .i64 0) (.slice none 0 0) (.slice none 0 0) (.int .i64 0) (.slice none 0 0) 36
  rw [hsz9] at X11
  have F11 := Lib.hid F11
  have X11 := Lib.hid X11
  clear F9 F10 nb
  go_wp2_with fail
  with_reducible refine (SQ2 _ F11.out.st).mono ?_
  rintro r v12 ⟨v, q, a, bb, A0, m0, C0, A1, m1, C1, zz, A2, m2, C2, rfl, rfl, hst, kb, hrel⟩
  have F12 := F11.out.kb kb hst
  have X12 := X11.out.kb kb (show v9.heap.size ≠ sb by omega)
  have hsz11 := F11.out.be.size
  have hx11 := X11.out.lt
  have hx12 := X12.lt
  obtain ⟨x0, x1, x2, x3, x4, x5⟩ := X12.box
  have f := X12.free
  have fx0 := f 0
  have fx1 := f 1
  have fx2 := f 2
  have fx3 := f 3
  have fx4 := f 4
  have fx5 := f 5
  have MD := Lib.hid (Mid.part (w := w) hR X12 (by have := F11.out.non.lt; omega) hx11 hrel)
  have FR := Lib.hid (F12.put (x := v9.heap.size) (v0 := .int .i64 a) (v1 := .int .i64 bb) (v2 := .slice A0 m0 C0) (v3 := .slice A1 m1 C1) (v4 := .int .i64 zz) (v5 := .slice A2 m2 C2) (by omega) (by omega) (by omega))
  clear F11 X11 f X12 F12 hst kb hrel SQ2 c0 c1 c2 f1 f2 n0 n1 n2 n3 n4 n5
  obtain ⟨WM, hWM⟩ : ∃ W, W = set6 v9.heap.size (.int .i64 a) (.int .i64 bb) (.slice A0 m0 C0) (.slice A1 m1 C1) (.int .i64 zz) (.slice A2 m2 C2) v12 := ⟨_, rfl⟩
  rw [← hWM] at MD FR
  unfold set6 at hWM
  go_wp2
  rw [← hWM]
  rw [← hxb] at MD F9N ⊢
  clear hWM x0 x1 x2 x3 x4 x5 fx0 fx1 fx2 fx3 fx4 fx5
  have hxN := F9N
  clear F9N hxb hsz9 hsz11 hx11 hx12 hcnt hR hs hgl hse hg1
  obtain ⟨k, ec⟩ := q
  have HMM := Lib.hid (And.intro FR.out (And.intro MD.out hxN))
  clear FR MD hxN
  have FR := Lib.hid HMM.out.1
  have MD := Lib.hid HMM.out.2.1
  have hxN := HMM.out.2.2
  clear HMM
  have hklt : k < L.length := FR.out.st.lt
  obtain ⟨x, hx⟩ := hE.at hklt
  obtain ⟨c0, c1, c2, _, _⟩ := FR.out.st.cells
  have hs12 := FR.out.st.size
  have hgl12 := FR.out.st.toks.1
  simp only at c1 c2
  obtain ⟨t0, _, _, _, _⟩ := FR.out.st.toks.get hx
  have hle := FR.out.st.le
  have hmx := FR.out.st.mx
  unfold maxLen at hmx
  have i1 : (0 : Int) ≤ (k : Int) := by omega
  have i2 : (k : Int) < (L.length : Int) := by omega
  have e1 : wholeR L = (instR L).nx fun I k => (tokR L 3 k).nx fun _ k1 => .ok I k1 := rfl
  have HX0 := Lib.hid hx
  obtain ⟨kd, hkd⟩ : ∃ kd : Int, ((x.kind : Nat) : Int) = kd := ⟨_, rfl⟩
  rw [hkd] at t0
  by_cases hc : x.kind = 3
  · have hkd3 : kd = 3 := by omega
    subst hkd3
    clear hx hkd
    go_quiet (fail)
    generalize hWB : WM.drewN _ = WB
    have FB0 : Fr sb g C L (k, ec) w WB := by rw [← hWB]; exact FR.out.next (below_drewN (Below.refl _ _) _)
    have MB0 : Mid L w xb (k, ec) WB := by rw [← hWB]; exact MD.out.next (below_drewN (Below.refl _ _) _)
    have FB := Lib.hid FB0
    have MB := Lib.hid MB0
    clear FR MD FB0 MB0 hWB c0 c1 c2 t0
    obtain ⟨ax, bbx, A0x, m0x, C0x, A1x, m1x, C1x, zzx, A2x, m2x, C2x, HXB0, hrel⟩ := MB.out
    have HXB := Lib.hid HXB0
    clear HXB0 MB
    rcases hrel with ⟨he0, I, hRi, hIn⟩ | ⟨he0, hRi⟩
    · have he0 : ec = 0 := he0
      subst he0
      have hWR : wholeR L = .ok I (k + 1) := by
        rw [e1, hRi]
        show (tokR L 3 k).nx _ = _
        unfold tokR
        rw [HX0.out]
        simp only
        rw [if_pos hc]
        rfl
      have HIN := Lib.hid hIn
      clear e1 hRi hIn hc
      have hps := Lib.hid (show psOf L (wholeR L) = ⟨I, 0, 0, 0⟩ by rw [hWR]; rfl)
      obtain ⟨z0, z1, z2, z3, z4, z5⟩ := FB.out.res.box
      obtain ⟨n0, n1, n2, n3, n4, n5⟩ := HXB.out.box
      have hPP := FB.out.pos
      have y0 : WB.cell? ⟨w.heap.size + 1, 0, none⟩ = some (.int .i64 0) := by unfold World.cell?; simp only [hPP]; rfl
      have y1 : WB.cell? ⟨w.heap.size + 1, 1, none⟩ = some (.int .i64 0) := by unfold World.cell?; simp only [hPP]; rfl
      have f := FB.out.res.free
      have f0 := f 0
      have f1 := f 1
      have f2 := f 2
      have f3 := f 3
      have f4 := f 4
      have f5 := f 5
      have g0 : WB.frozen? ⟨w.heap.size + 1, 0, none⟩ = false := frozen_of_row WB _ _ _ _ hPP
      have g1 : WB.frozen? ⟨w.heap.size + 1, 1, none⟩ = false := frozen_of_row WB _ _ _ _ hPP
      have hb0 : w.heap.size < WB.heap.size := FB.out.res.lt
      have hb1 : w.heap.size + 1 < WB.heap.size := lt_of_block hPP
      have hb3 : xb < WB.heap.size := HXB.out.lt
      have hse := FB.out.sep
      obtain ⟨c0, c1, c2, _, _⟩ := FB.out.st.cells
      have hs := FB.out.st.size
      simp only at c1 c2
      have q1 := ((held_set6 (b := w.heap.size) (v0 := .int .i64 ax) (v1 := .int .i64 bbx) (v2 := .slice A0x m0x C0x) (v3 := .slice A1x m1x C1x) (v4 := .int .i64 zzx) (v5 := .slice A2x m2x C2x) (w := WB) (F := fun q => q = w.heap.size + 1) (fun q hq => by omega)).2 _ rfl (by omega)).trans hPP
      have q0 := FB.out.res.set6 (v0 := .int .i64 ax) (v1 := .int .i64 bbx) (v2 := .slice A0x m0x C0x) (v3 := .slice A1x m1x C1x) (v4 := .int .i64 zzx) (v5 := .slice A2x m2x C2x)
      have q2 := heap_setCell_same _ (w.heap.size + 1) 1 _ _ (.int .i64 0) (heap_setCell_same _ (w.heap.size + 1) 0 _ _ (.int .i64 0) q1)
      have q3 := (q0.other (a := ⟨w.heap.size + 1, 0, none⟩) (show w.heap.size ≠ w.heap.size + 1 by omega) (.int .i64 0)).other (a := ⟨w.heap.size + 1, 1, none⟩) (show w.heap.size ≠ w.heap.size + 1 by omega) (.int .i64 0)
      have q4 := end8 (v0 := .int .i64 ax) (v1 := .int .i64 bbx) (v2 := .slice A0x m0x C0x) (v3 := .slice A1x m1x C1x) (v4 := .int .i64 zzx) (v5 := .slice A2x m2x C2x) (u0 := .int .i64 0) (u1 := .int .i64 0) HIN.out FB.out.be (by omega)
      have HQ := Lib.hid (And.intro q3 (And.intro q2 q4))
      unfold set6 at HQ
      clear f q0 q1 q2 q3 q4 hPP FB hWR HIN HXB
      go_wp2
      obtain ⟨z1', z2', z3', z4'⟩ := HQ.out
      clear HQ
      revert z1' z2' z3' z4'
      generalize ((((((((WB.setCell _ _).setCell _ _).setCell _ _).setCell _ _).setCell _ _).setCell _ _).setCell _ _).setCell _ _) = W8
      intro z1' z2' z3' z4'
      obtain ⟨e0, e1, e2, e3, e4, e5⟩ := z1'.box
      have e6 : W8.cell? ⟨w.heap.size + 1, 0, none⟩ = some (.int .i64 0) := by unfold World.cell?; simp only [z2']; rfl
      have e7 : W8.cell? ⟨w.heap.size + 1, 1, none⟩ = some (.int .i64 0) := by unfold World.cell?; simp only [z2']; rfl
      refine bodyPost_ret (v := .tuple #[.agg #[.int .i64 ax, .int .i64 bbx, .slice A0x m0x C0x, .slice A1x m1x C1x, .int .i64 zzx, .slice A2x m2x C2x], .agg #[.int .i64 0, .int .i64 0], .int .i64 0]) (by simp [results, Tryz.results13, go_sem, e0, e1, e2, e3, e4, e5, e6, e7]) rfl ?_
      rw [hps.out]
      exact ⟨_, rfl, z3', z4'⟩
    · have he0 : ec ≠ 0 := he0
      have hWR : wholeR L = .no k ec := by rw [e1, hRi]; rfl
      have he2 : ¬ (ec : Int) = 0 := by omega
      clear e1 hRi HXB hc
      have hx := HX0.out
      have hps := Lib.hid (show psOf L (wholeR L) = ⟨zIn, x.line, x.col, ec⟩ by rw [hWR]; simp [psOf, hx])
      have hF0 : Fr sb g C L (k, ec) w WB.drew := FB.out.next (Below.refl _ _).drew
      obtain ⟨W0, hW0⟩ : ∃ q, q = WB.drew := ⟨_, rfl⟩
      rw [← hW0] at hF0
      have HY : Hid (RM w.heap.size (x.line : Nat) (x.col : Nat) W0 (fun _ => false) WB.drew) := by rw [← hW0]; exact RM.start _ _ _ _
      obtain ⟨c0, c1, c2, _, _⟩ := FB.out.st.cells
      have hs := FB.out.st.size
      have hgl := FB.out.st.toks.1
      simp only at c1 c2
      have HF := Lib.hid hF0
      have HT := Lib.hid (hF0.st.toks.get hx)
      have HC := Lib.hid hF0.st.cells
      have hse := FB.out.sep
      clear FB hWR hx hF0 hW0
      go_wp2
      have ok : (planW2B sb g k L.length C x.line x.col ec).ok = true := rfl
      refine region_inv (Inv := fun lq_ aq_ wr => ∃ (e : Nat → Bool) (t : Nat → Value), lq_ = #[e 0, e 1, e 2, e 3, e 4, e 5, e 6, e 7, e 8, e 9, e 10, e 11, e 12, e 13, e 14, e 15, e 16, e 17, e 18, e 19, e 20, e 21, e 22, e 23, e 24, e 25, e 26, e 27, e 28, e 29, e 30] ∧ aq_ = ⟨#[.string s, undef, .pointer (some ⟨w.heap.size, 0, none⟩), .pointer (some ⟨w.heap.size + 1, 0, none⟩), t 4, .pointer (some ⟨w.heap.size + 1 + 1, 0, none⟩), .slice (some ⟨g, 0, none⟩) L.length C, .pointer (some ⟨w3.heap.size, 0, none⟩), .int .i64 0, .pointer (some ⟨sb, 0, none⟩), .bool false, .bool false, .bool true, .bool false, .pointer (some ⟨xb, 0, none⟩), .agg #[.int .i64 0, .int .i64 0, .slice none 0 0, .slice none 0 0, .int .i64 0, .slice none 0 0], .tuple #[.slice (some ⟨g, 0, none⟩) L.length C, .agg #[.int .i64 (pl1 : Int), .int .i64 (pc1 : Int)], .int .i64 0], .string s, .tuple #[.slice (some ⟨g, 0, none⟩) L.length C, .agg #[.int .i64 (pl1 : Int), .int .i64 (pc1 : Int)], .int .i64 0], .slice (some ⟨g, 0, none⟩) L.length C, .agg #[.int .i64 (pl1 : Int), .int .i64 (pc1 : Int)], .int .i64 0, .int .i64 0, .bool false, undef, undef, undef, .slice (some ⟨g, 0, none⟩) L.length C, .agg #[.slice (some ⟨g, 0, none⟩) L.length C, .int .i64 0, .int .i64 0], .pointer (some ⟨sb, 0, none⟩), .pointer (some ⟨sb, 0, none⟩), .bool false, .pointer (some ⟨sb, 0, none⟩), .bool false, .pointer (some ⟨sb, 0, none⟩), .bool true, .pointer (some ⟨sb, 0, none⟩), .bool false, .agg #[.int .i64 0, .int .i64 0, .slice none 0 0, .slice none 0 0, .int .i64 0, .slice none 0 0], .bool false, .bool true, .bool true, .bool false, .bool true, .bool true, .bool true, .bool true, .bool false, .bool false, .bool false, undef, undef, .bool false, undef, undef, .pointer (some ⟨sb, 0, none⟩), .pointer (some ⟨sb, 0, none⟩), .pointer (some ⟨sb, 1, none⟩), .bool false, undef, undef, .bool false, undef, undef, .bool true, .pointer (some ⟨sb, 0, none⟩), .agg #[.int .i64 a, .int .i64 bb, .slice A0 m0 C0, .slice A1 m1 C1, .int .i64 zz, .slice A2 m2 C2], .bool false, undef, undef, .pointer (some ⟨sb, 0, none⟩), .pointer (some ⟨sb, 0, none⟩), .pointer (some ⟨sb, 0, none⟩), .slice (some ⟨g, 0, none⟩) L.length C, .pointer (some ⟨sb, 0, none⟩), .pointer (some ⟨sb, 0, none⟩), .pointer (some ⟨sb, 1, none⟩), .int .i64 (k : Int), .pointer (some ⟨g, k * 5, none⟩), .pointer (some ⟨g, k * 5, none⟩), .int .i64 3, .bool false, undef, undef, .pointer (some ⟨sb, 0, none⟩), .pointer (some ⟨sb, 0, none⟩), .pointer (some ⟨sb, 2, none⟩), .int .i64 (ec : Int), .bool true, t 89, t 90, t 91, t 92, t 93, t 94, t 95, t 96, t 97, t 98, t 99, t 100, t 101, t 102, t 103, t 104, t 105, t 106, t 107, t 108, t 109, t 110, t 111, t 112, t 113, t 114, t 115, t 116, undef, undef], []⟩ ∧ Vals (planW2B sb g k L.length C x.line x.col ec) e t ∧ RM w.heap.size (x.line : Nat) (x.col : Nat) W0 e wr) (by kernel_rfl) ?step ?start ?done
      case start => exact ⟨fun _ => false, fun j => if j = 4 then .int .i64 0 else undef, rfl, rfl, Vals.start _ _, HY.out⟩
      case step =>
        rintro lq_ aq_ wr ⟨e, t, rfl, rfl, hs, hm⟩ q_ o ho hi ha
        match q_, ho, hi, ha with
        | 0, ho, hi, ha =>
          obtain rfl : _ = o := Option.some.inj ho
          have hi : e 0 = false := hi
          have B_ : IBlk (w.heap.size + 1 + 1) 36 (.int .i64 0) (.int .i64 0) (.slice none 0 0) (.slice none 0 0) (.int .i64 0) (.slice none 0 0) wr := hm.row HF.out.non (by omega) (by omega)
          obtain ⟨n0_, n1_, n2_, n3_, n4_, n5_⟩ := B_.box
          clear B_
          refine wpOp_step (i := 0) rfl (fun K hK => ?_)
          have HK : Shut (∀ a w, _ → K a w) := hK
          clear hK ho
          have HS := Lib.hid hs
          have HM := Lib.hid hm
          have HI := Lib.hid hi
          clear hs ha hm hi
          go_simp
          exact HK.out _ _ ⟨upd e 0 true, upd t 89 _, rfl, rfl, by exact HS.out.put ok (i := 0) rfl, (by exact HM.out.mark (by decide) (by decide))⟩
        | 1, ho, hi, ha =>
          obtain rfl : _ = o := Option.some.inj ho
          have hi : e 1 = false := hi
          refine wpOp_step (i := 1) rfl (fun K hK => ?_)
          have HK : Shut (∀ a w, _ → K a w) := hK
          clear hK ho
          have HS := Lib.hid hs
          have HM := Lib.hid hm
          have HI := Lib.hid hi
          clear hs ha hm hi
          go_simp
          exact HK.out _ _ ⟨upd e 1 true, upd t 90 _, rfl, rfl, by exact HS.out.put ok (i := 1) rfl, (by exact HM.out.mark (by decide) (by decide))⟩
        | 2, ho, hi, ha =>
          obtain rfl : _ = o := Option.some.inj ho
          have hi : e 2 = false := hi
          have T1 : t 90 = .pointer (some ⟨sb, 0, none⟩) := hs.val 1 rfl (ha { on := 1, ground := .data } (by simp) rfl)
          have H1 := Lib.hid T1
          refine wpOp_step (i := 2) rfl (fun K hK => ?_)
          have HK : Shut (∀ a w, _ → K a w) := hK
          clear hK ho
          have HS := Lib.hid hs
          have HM := Lib.hid hm
          have HI := Lib.hid hi
          clear hs ha hm hi
          go_simp
          exact HK.out _ _ ⟨upd e 2 true, upd (upd t 90 _) 91 _, rfl, rfl, by rw [upd_self H1.out]; exact HS.out.put ok (i := 2) rfl, (by exact HM.out.mark (by decide) (by decide))⟩
        | 3, ho, hi, ha =>
          obtain rfl : _ = o := Option.some.inj ho
          have hi : e 3 = false := hi
          have T2 : t 91 = .pointer (some ⟨sb, 0, none⟩) := hs.val 2 rfl (ha { on := 2, ground := .data } (by simp) rfl)
          have H2 := Lib.hid T2
          refine wpOp_step (i := 3) rfl (fun K hK => ?_)
          have HK : Shut (∀ a w, _ → K a w) := hK
          clear hK ho
          have HS := Lib.hid hs
          have HM := Lib.hid hm
          have HI := Lib.hid hi
          clear hs ha hm hi
          go_simp
          exact HK.out _ _ ⟨upd e 3 true, upd (upd t 91 _) 92 _, rfl, rfl, by rw [upd_self H2.out]; exact HS.out.put ok (i := 3) rfl, (by exact HM.out.mark (by decide) (by decide))⟩
        | 4, ho, hi, ha =>
          obtain rfl : _ = o := Option.some.inj ho
          have hi : e 4 = false := hi
          have T3 : t 92 = .pointer (some ⟨sb, 0, none⟩) := hs.val 3 rfl (ha { on := 3, ground := .data } (by simp) rfl)
          have H3 := Lib.hid T3
          have q_ : wr.cell? ⟨sb, 0, none⟩ = some (.slice (some ⟨g, 0, none⟩) L.length C) := hm.cell HC.out.1 (by omega) (by omega)
          refine wpOp_step (i := 4) rfl (fun K hK => ?_)
          have HK : Shut (∀ a w, _ → K a w) := hK
          clear hK ho
          have HS := Lib.hid hs
          have HM := Lib.hid hm
          have HI := Lib.hid hi
          clear hs ha hm hi
          go_simp
          exact HK.out _ _ ⟨upd e 4 true, upd (upd t 92 _) 93 _, rfl, rfl, by rw [upd_self H3.out]; exact HS.out.put ok (i := 4) rfl, (by exact HM.out.mark (by decide) (by decide))⟩
        | 5, ho, hi, ha =>
          obtain rfl : _ = o := Option.some.inj ho
          have hi : e 5 = false := hi
          refine wpOp_step (i := 5) rfl (fun K hK => ?_)
          have HK : Shut (∀ a w, _ → K a w) := hK
          clear hK ho
          have HS := Lib.hid hs
          have HM := Lib.hid hm
          have HI := Lib.hid hi
          clear hs ha hm hi
          go_simp
          exact HK.out _ _ ⟨upd e 5 true, upd t 94 _, rfl, rfl, by exact HS.out.put ok (i := 5) rfl, (by exact HM.out.mark (by decide) (by decide))⟩
        | 6, ho, hi, ha =>
          obtain rfl : _ = o := Option.some.inj ho
          have hi : e 6 = false := hi
          have T5 : t 94 = .pointer (some ⟨sb, 0, none⟩) := hs.val 5 rfl (ha { on := 5, ground := .data } (by simp) rfl)
          have H5 := Lib.hid T5
          refine wpOp_step (i := 6) rfl (fun K hK => ?_)
          have HK : Shut (∀ a w, _ → K a w) := hK
          clear hK ho
          have HS := Lib.hid hs
          have HM := Lib.hid hm
          have HI := Lib.hid hi
          clear hs ha hm hi
          go_simp
          exact HK.out _ _ ⟨upd e 6 true, upd (upd t 94 _) 95 _, rfl, rfl, by rw [upd_self H5.out]; exact HS.out.put ok (i := 6) rfl, (by exact HM.out.mark (by decide) (by decide))⟩
        | 7, ho, hi, ha =>
          obtain rfl : _ = o := Option.some.inj ho
          have hi : e 7 = false := hi
          have T6 : t 95 = .pointer (some ⟨sb, 0, none⟩) := hs.val 6 rfl (ha { on := 6, ground := .data } (by simp) rfl)
          have H6 := Lib.hid T6
          refine wpOp_step (i := 7) rfl (fun K hK => ?_)
          have HK : Shut (∀ a w, _ → K a w) := hK
          clear hK ho
          have HS := Lib.hid hs
          have HM := Lib.hid hm
          have HI := Lib.hid hi
          clear hs ha hm hi
          go_simp
          exact HK.out _ _ ⟨upd e 7 true, upd (upd t 95 _) 96 _, rfl, rfl, by rw [upd_self H6.out]; exact HS.out.put ok (i := 7) rfl, (by exact HM.out.mark (by decide) (by decide))⟩
        | 8, ho, hi, ha =>
          obtain rfl : _ = o := Option.some.inj ho
          have hi : e 8 = false := hi
          have T7 : t 96 = .pointer (some ⟨sb, 1, none⟩) := hs.val 7 rfl (ha { on := 7, ground := .data } (by simp) rfl)
          have H7 := Lib.hid T7
          have q_ : wr.cell? ⟨sb, 1, none⟩ = some (.int .i64 (k : Nat)) := hm.cell HC.out.2.1 (by omega) (by omega)
          refine wpOp_step (i := 8) rfl (fun K hK => ?_)
          have HK : Shut (∀ a w, _ → K a w) := hK
          clear hK ho
          have HS := Lib.hid hs
          have HM := Lib.hid hm
          have HI := Lib.hid hi
          clear hs ha hm hi
          go_simp
          exact HK.out _ _ ⟨upd e 8 true, upd (upd t 96 _) 97 _, rfl, rfl, by rw [upd_self H7.out]; exact HS.out.put ok (i := 8) rfl, (by exact HM.out.mark (by decide) (by decide))⟩
        | 9, ho, hi, ha =>
          obtain rfl : _ = o := Option.some.inj ho
          have hi : e 9 = false := hi
          have T4 : t 93 = .slice (some ⟨g, 0, none⟩) L.length C := hs.val 4 rfl (ha { on := 4, ground := .data } (by simp) rfl)
          have H4 := Lib.hid T4
          have T8 : t 97 = .int .i64 (k : Nat) := hs.val 8 rfl (ha { on := 8, ground := .data } (by simp) rfl)
          have H8 := Lib.hid T8
          refine wpOp_step (i := 9) rfl (fun K hK => ?_)
          have HK : Shut (∀ a w, _ → K a w) := hK
          clear hK ho
          have HS := Lib.hid hs
          have HM := Lib.hid hm
          have HI := Lib.hid hi
          clear hs ha hm hi
          go_simp
          exact HK.out _ _ ⟨upd e 9 true, upd (upd (upd t 93 _) 97 _) 98 _, rfl, rfl, by rw [upd_self H4.out, upd_self H8.out]; exact HS.out.put ok (i := 9) rfl, (by exact HM.out.mark (by decide) (by decide))⟩
        | 10, ho, hi, ha =>
          obtain rfl : _ = o := Option.some.inj ho
          have hi : e 10 = false := hi
          have T9 : t 98 = .pointer (some ⟨g, k * 5, none⟩) := hs.val 9 rfl (ha { on := 9, ground := .data } (by simp) rfl)
          have H9 := Lib.hid T9
          refine wpOp_step (i := 10) rfl (fun K hK => ?_)
          have HK : Shut (∀ a w, _ → K a w) := hK
          clear hK ho
          have HS := Lib.hid hs
          have HM := Lib.hid hm
          have HI := Lib.hid hi
          clear hs ha hm hi
          go_simp
          exact HK.out _ _ ⟨upd e 10 true, upd (upd t 98 _) 99 _, rfl, rfl, by rw [upd_self H9.out]; exact HS.out.put ok (i := 10) rfl, (by exact HM.out.mark (by decide) (by decide))⟩
        | 11, ho, hi, ha =>
          obtain rfl : _ = o := Option.some.inj ho
          have hi : e 11 = false := hi
          have T10 : t 99 = .pointer (some ⟨g, k * 5 + 3, none⟩) := hs.val 10 rfl (ha { on := 10, ground := .data } (by simp) rfl)
          have H10 := Lib.hid T10
          have q_ : wr.cell? ⟨g, k * 5 + 3, none⟩ = some (.int .i64 (x.line : Nat)) := hm.cell HT.out.2.2.2.1 (by omega) (by omega)
          refine wpOp_step (i := 11) rfl (fun K hK => ?_)
          have HK : Shut (∀ a w, _ → K a w) := hK
          clear hK ho
          have HS := Lib.hid hs
          have HM := Lib.hid hm
          have HI := Lib.hid hi
          clear hs ha hm hi
          go_simp
          exact HK.out _ _ ⟨upd e 11 true, upd (upd t 99 _) 100 _, rfl, rfl, by rw [upd_self H10.out]; exact HS.out.put ok (i := 11) rfl, (by exact HM.out.mark (by decide) (by decide))⟩
        | 12, ho, hi, ha =>
          obtain rfl : _ = o := Option.some.inj ho
          have hi : e 12 = false := hi
          refine wpOp_step (i := 12) rfl (fun K hK => ?_)
          have HK : Shut (∀ a w, _ → K a w) := hK
          clear hK ho
          have HS := Lib.hid hs
          have HM := Lib.hid hm
          have HI := Lib.hid hi
          clear hs ha hm hi
          go_simp
          exact HK.out _ _ ⟨upd e 12 true, upd t 101 _, rfl, rfl, by exact HS.out.put ok (i := 12) rfl, (by exact HM.out.mark (by decide) (by decide))⟩
        | 13, ho, hi, ha =>
          obtain rfl : _ = o := Option.some.inj ho
          have hi : e 13 = false := hi
          have T12 : t 101 = .pointer (some ⟨sb, 0, none⟩) := hs.val 12 rfl (ha { on := 12, ground := .data } (by simp) rfl)
          have H12 := Lib.hid T12
          refine wpOp_step (i := 13) rfl (fun K hK => ?_)
          have HK : Shut (∀ a w, _ → K a w) := hK
          clear hK ho
          have HS := Lib.hid hs
          have HM := Lib.hid hm
          have HI := Lib.hid hi
          clear hs ha hm hi
          go_simp
          exact HK.out _ _ ⟨upd e 13 true, upd (upd t 101 _) 102 _, rfl, rfl, by rw [upd_self H12.out]; exact HS.out.put ok (i := 13) rfl, (by exact HM.out.mark (by decide) (by decide))⟩
        | 14, ho, hi, ha =>
          obtain rfl : _ = o := Option.some.inj ho
          have hi : e 14 = false := hi
          have T13 : t 102 = .pointer (some ⟨sb, 0, none⟩) := hs.val 13 rfl (ha { on := 13, ground := .data } (by simp) rfl)
          have H13 := Lib.hid T13
          refine wpOp_step (i := 14) rfl (fun K hK => ?_)
          have HK : Shut (∀ a w, _ → K a w) := hK
          clear hK ho
          have HS := Lib.hid hs
          have HM := Lib.hid hm
          have HI := Lib.hid hi
          clear hs ha hm hi
          go_simp
          exact HK.out _ _ ⟨upd e 14 true, upd (upd t 102 _) 103 _, rfl, rfl, by rw [upd_self H13.out]; exact HS.out.put ok (i := 14) rfl, (by exact HM.out.mark (by decide) (by decide))⟩
        | 15, ho, hi, ha =>
          obtain rfl : _ = o := Option.some.inj ho
          have hi : e 15 = false := hi
          have T14 : t 103 = .pointer (some ⟨sb, 0, none⟩) := hs.val 14 rfl (ha { on := 14, ground := .data } (by simp) rfl)
          have H14 := Lib.hid T14
          have q_ : wr.cell? ⟨sb, 0, none⟩ = some (.slice (some ⟨g, 0, none⟩) L.length C) := hm.cell HC.out.1 (by omega) (by omega)
          refine wpOp_step (i := 15) rfl (fun K hK => ?_)
          have HK : Shut (∀ a w, _ → K a w) := hK
          clear hK ho
          have HS := Lib.hid hs
          have HM := Lib.hid hm
          have HI := Lib.hid hi
          clear hs ha hm hi
          go_simp
          exact HK.out _ _ ⟨upd e 15 true, upd (upd t 103 _) 104 _, rfl, rfl, by rw [upd_self H14.out]; exact HS.out.put ok (i := 15) rfl, (by exact HM.out.mark (by decide) (by decide))⟩
        | 16, ho, hi, ha =>
          obtain rfl : _ = o := Option.some.inj ho
          have hi : e 16 = false := hi
          refine wpOp_step (i := 16) rfl (fun K hK => ?_)
          have HK : Shut (∀ a w, _ → K a w) := hK
          clear hK ho
          have HS := Lib.hid hs
          have HM := Lib.hid hm
          have HI := Lib.hid hi
          clear hs ha hm hi
          go_simp
          exact HK.out _ _ ⟨upd e 16 true, upd t 105 _, rfl, rfl, by exact HS.out.put ok (i := 16) rfl, (by exact HM.out.mark (by decide) (by decide))⟩
        | 17, ho, hi, ha =>
          obtain rfl : _ = o := Option.some.inj ho
          have hi : e 17 = false := hi
          have T16 : t 105 = .pointer (some ⟨sb, 0, none⟩) := hs.val 16 rfl (ha { on := 16, ground := .data } (by simp) rfl)
          have H16 := Lib.hid T16
          refine wpOp_step (i := 17) rfl (fun K hK => ?_)
          have HK : Shut (∀ a w, _ → K a w) := hK
          clear hK ho
          have HS := Lib.hid hs
          have HM := Lib.hid hm
          have HI := Lib.hid hi
          clear hs ha hm hi
          go_simp
          exact HK.out _ _ ⟨upd e 17 true, upd (upd t 105 _) 106 _, rfl, rfl, by rw [upd_self H16.out]; exact HS.out.put ok (i := 17) rfl, (by exact HM.out.mark (by decide) (by decide))⟩
        | 18, ho, hi, ha =>
          obtain rfl : _ = o := Option.some.inj ho
          have hi : e 18 = false := hi
          have T17 : t 106 = .pointer (some ⟨sb, 0, none⟩) := hs.val 17 rfl (ha { on := 17, ground := .data } (by simp) rfl)
          have H17 := Lib.hid T17
          refine wpOp_step (i := 18) rfl (fun K hK => ?_)
          have HK : Shut (∀ a w, _ → K a w) := hK
          clear hK ho
          have HS := Lib.hid hs
          have HM := Lib.hid hm
          have HI := Lib.hid hi
          clear hs ha hm hi
          go_simp
          exact HK.out _ _ ⟨upd e 18 true, upd (upd t 106 _) 107 _, rfl, rfl, by rw [upd_self H17.out]; exact HS.out.put ok (i := 18) rfl, (by exact HM.out.mark (by decide) (by decide))⟩
        | 19, ho, hi, ha =>
          obtain rfl : _ = o := Option.some.inj ho
          have hi : e 19 = false := hi
          have T18 : t 107 = .pointer (some ⟨sb, 1, none⟩) := hs.val 18 rfl (ha { on := 18, ground := .data } (by simp) rfl)
          have H18 := Lib.hid T18
          have q_ : wr.cell? ⟨sb, 1, none⟩ = some (.int .i64 (k : Nat)) := hm.cell HC.out.2.1 (by omega) (by omega)
          refine wpOp_step (i := 19) rfl (fun K hK => ?_)
          have HK : Shut (∀ a w, _ → K a w) := hK
          clear hK ho
          have HS := Lib.hid hs
          have HM := Lib.hid hm
          have HI := Lib.hid hi
          clear hs ha hm hi
          go_simp
          exact HK.out _ _ ⟨upd e 19 true, upd (upd t 107 _) 108 _, rfl, rfl, by rw [upd_self H18.out]; exact HS.out.put ok (i := 19) rfl, (by exact HM.out.mark (by decide) (by decide))⟩
        | 20, ho, hi, ha =>
          obtain rfl : _ = o := Option.some.inj ho
          have hi : e 20 = false := hi
          have T15 : t 104 = .slice (some ⟨g, 0, none⟩) L.length C := hs.val 15 rfl (ha { on := 15, ground := .data } (by simp) rfl)
          have H15 := Lib.hid T15
          have T19 : t 108 = .int .i64 (k : Nat) := hs.val 19 rfl (ha { on := 19, ground := .data } (by simp) rfl)
          have H19 := Lib.hid T19
          refine wpOp_step (i := 20) rfl (fun K hK => ?_)
          have HK : Shut (∀ a w, _ → K a w) := hK
          clear hK ho
          have HS := Lib.hid hs
          have HM := Lib.hid hm
          have HI := Lib.hid hi
          clear hs ha hm hi
          go_simp
          exact HK.out _ _ ⟨upd e 20 true, upd (upd (upd t 104 _) 108 _) 109 _, rfl, rfl, by rw [upd_self H15.out, upd_self H19.out]; exact HS.out.put ok (i := 20) rfl, (by exact HM.out.mark (by decide) (by decide))⟩
        | 21, ho, hi, ha =>
          obtain rfl : _ = o := Option.some.inj ho
          have hi : e 21 = false := hi
          have T20 : t 109 = .pointer (some ⟨g, k * 5, none⟩) := hs.val 20 rfl (ha { on := 20, ground := .data } (by simp) rfl)
          have H20 := Lib.hid T20
          refine wpOp_step (i := 21) rfl (fun K hK => ?_)
          have HK : Shut (∀ a w, _ → K a w) := hK
          clear hK ho
          have HS := Lib.hid hs
          have HM := Lib.hid hm
          have HI := Lib.hid hi
          clear hs ha hm hi
          go_simp
          exact HK.out _ _ ⟨upd e 21 true, upd (upd t 109 _) 110 _, rfl, rfl, by rw [upd_self H20.out]; exact HS.out.put ok (i := 21) rfl, (by exact HM.out.mark (by decide) (by decide))⟩
        | 22, ho, hi, ha =>
          obtain rfl : _ = o := Option.some.inj ho
          have hi : e 22 = false := hi
          have T21 : t 110 = .pointer (some ⟨g, k * 5 + 4, none⟩) := hs.val 21 rfl (ha { on := 21, ground := .data } (by simp) rfl)
          have H21 := Lib.hid T21
          have q_ : wr.cell? ⟨g, k * 5 + 4, none⟩ = some (.int .i64 (x.col : Nat)) := hm.cell HT.out.2.2.2.2 (by omega) (by omega)
          refine wpOp_step (i := 22) rfl (fun K hK => ?_)
          have HK : Shut (∀ a w, _ → K a w) := hK
          clear hK ho
          have HS := Lib.hid hs
          have HM := Lib.hid hm
          have HI := Lib.hid hi
          clear hs ha hm hi
          go_simp
          exact HK.out _ _ ⟨upd e 22 true, upd (upd t 110 _) 111 _, rfl, rfl, by rw [upd_self H21.out]; exact HS.out.put ok (i := 22) rfl, (by exact HM.out.mark (by decide) (by decide))⟩
        | 23, ho, hi, ha =>
          obtain rfl : _ = o := Option.some.inj ho
          have hi : e 23 = false := hi
          have T11 : t 100 = .int .i64 (x.line : Nat) := hs.val 11 rfl (ha { on := 11, ground := .data } (by simp) rfl)
          have H11 := Lib.hid T11
          have T22 : t 111 = .int .i64 (x.col : Nat) := hs.val 22 rfl (ha { on := 22, ground := .data } (by simp) rfl)
          have H22 := Lib.hid T22
          refine wpOp_step (i := 23) rfl (fun K hK => ?_)
          have HK : Shut (∀ a w, _ → K a w) := hK
          clear hK ho
          have HS := Lib.hid hs
          have HM := Lib.hid hm
          have HI := Lib.hid hi
          clear hs ha hm hi
          go_simp
          exact HK.out _ _ ⟨upd e 23 true, upd (upd (upd t 100 _) 111 _) 112 _, rfl, rfl, by rw [upd_self H11.out, upd_self H22.out]; exact HS.out.put ok (i := 23) rfl, (by exact HM.out.mark (by decide) (by decide))⟩
        | 24, ho, hi, ha =>
          obtain rfl : _ = o := Option.some.inj ho
          have hi : e 24 = false := hi
          refine wpOp_step (i := 24) rfl (fun K hK => ?_)
          have HK : Shut (∀ a w, _ → K a w) := hK
          clear hK ho
          have HS := Lib.hid hs
          have HM := Lib.hid hm
          have HI := Lib.hid hi
          clear hs ha hm hi
          go_simp
          exact HK.out _ _ ⟨upd e 24 true, upd t 113 _, rfl, rfl, by exact HS.out.put ok (i := 24) rfl, (by exact HM.out.mark (by decide) (by decide))⟩
        | 25, ho, hi, ha =>
          obtain rfl : _ = o := Option.some.inj ho
          have hi : e 25 = false := hi
          have T24 : t 113 = .pointer (some ⟨sb, 0, none⟩) := hs.val 24 rfl (ha { on := 24, ground := .data } (by simp) rfl)
          have H24 := Lib.hid T24
          refine wpOp_step (i := 25) rfl (fun K hK => ?_)
          have HK : Shut (∀ a w, _ → K a w) := hK
          clear hK ho
          have HS := Lib.hid hs
          have HM := Lib.hid hm
          have HI := Lib.hid hi
          clear hs ha hm hi
          go_simp
          exact HK.out _ _ ⟨upd e 25 true, upd (upd t 113 _) 114 _, rfl, rfl, by rw [upd_self H24.out]; exact HS.out.put ok (i := 25) rfl, (by exact HM.out.mark (by decide) (by decide))⟩
        | 26, ho, hi, ha =>
          obtain rfl : _ = o := Option.some.inj ho
          have hi : e 26 = false := hi
          have T25 : t 114 = .pointer (some ⟨sb, 0, none⟩) := hs.val 25 rfl (ha { on := 25, ground := .data } (by simp) rfl)
          have H25 := Lib.hid T25
          refine wpOp_step (i := 26) rfl (fun K hK => ?_)
          have HK : Shut (∀ a w, _ → K a w) := hK
          clear hK ho
          have HS := Lib.hid hs
          have HM := Lib.hid hm
          have HI := Lib.hid hi
          clear hs ha hm hi
          go_simp
          exact HK.out _ _ ⟨upd e 26 true, upd (upd t 114 _) 115 _, rfl, rfl, by rw [upd_self H25.out]; exact HS.out.put ok (i := 26) rfl, (by exact HM.out.mark (by decide) (by decide))⟩
        | 27, ho, hi, ha =>
          obtain rfl : _ = o := Option.some.inj ho
          have hi : e 27 = false := hi
          have T26 : t 115 = .pointer (some ⟨sb, 2, none⟩) := hs.val 26 rfl (ha { on := 26, ground := .data } (by simp) rfl)
          have H26 := Lib.hid T26
          have q_ : wr.cell? ⟨sb, 2, none⟩ = some (.int .i64 (ec : Nat)) := hm.cell HC.out.2.2.1 (by omega) (by omega)
          refine wpOp_step (i := 27) rfl (fun K hK => ?_)
          have HK : Shut (∀ a w, _ → K a w) := hK
          clear hK ho
          have HS := Lib.hid hs
          have HM := Lib.hid hm
          have HI := Lib.hid hi
          clear hs ha hm hi
          go_simp
          exact HK.out _ _ ⟨upd e 27 true, upd (upd t 115 _) 116 _, rfl, rfl, by rw [upd_self H26.out]; exact HS.out.put ok (i := 27) rfl, (by exact HM.out.mark (by decide) (by decide))⟩
        | 28, ho, hi, ha =>
          obtain rfl : _ = o := Option.some.inj ho
          have hi : e 28 = false := hi
          have T0 : t 89 = .agg #[.int .i64 0, .int .i64 0, .slice none 0 0, .slice none 0 0, .int .i64 0, .slice none 0 0] := hs.val 0 rfl (ha { on := 0, ground := .data } (by simp) rfl)
          have H0 := Lib.hid T0
          have B_ : IBlk w.heap.size 36 (.int .i64 0) (.int .i64 0) (.slice none 0 0) (.slice none 0 0) (.int .i64 0) (.slice none 0 0) wr := hm.res hi HF.out.res
          obtain ⟨z0_, z1_, z2_, z3_, z4_, z5_⟩ := B_.box
          have f0_ := B_.free 0
          have f1_ := B_.free 1
          have f2_ := B_.free 2
          have f3_ := B_.free 3
          have f4_ := B_.free 4
          have f5_ := B_.free 5
          clear B_
          refine wpOp_step (i := 28) rfl (fun K hK => ?_)
          have HK : Shut (∀ a w, _ → K a w) := hK
          clear hK ho
          have HS := Lib.hid hs
          have HM := Lib.hid hm
          have HI := Lib.hid hi
          clear hs ha hm hi
          go_simp
          exact HK.out _ _ ⟨upd e 28 true, (upd t 89 _), rfl, rfl, by rw [upd_self H0.out]; exact HS.out.skip (i := 28) rfl, (by exact HM.out.st1 HI.out)⟩
        | 29, ho, hi, ha =>
          obtain rfl : _ = o := Option.some.inj ho
          have hi : e 29 = false := hi
          have T23 : t 112 = .agg #[.int .i64 (x.line : Nat), .int .i64 (x.col : Nat)] := hs.val 23 rfl (ha { on := 23, ground := .data } (by simp) rfl)
          have H23 := Lib.hid T23
          have DP : Hid (e 28 = true) := ha { on := 28, ground := .chain } (by simp) rfl
          have R_ := hm.row1 hi HF.out.pos (show w.heap.size + 1 ≠ w.heap.size by omega)
          have y0_ : wr.cell? ⟨w.heap.size + 1, 0, none⟩ = some (.int .i64 0) := by unfold World.cell?; simp only [R_]; rfl
          have y1_ : wr.cell? ⟨w.heap.size + 1, 1, none⟩ = some (.int .i64 0) := by unfold World.cell?; simp only [R_]; rfl
          have g0_ : wr.frozen? ⟨w.heap.size + 1, 0, none⟩ = false := frozen_of_row wr _ _ _ _ R_
          have g1_ : wr.frozen? ⟨w.heap.size + 1, 1, none⟩ = false := frozen_of_row wr _ _ _ _ R_
          clear R_
          refine wpOp_step (i := 29) rfl (fun K hK => ?_)
          have HK : Shut (∀ a w, _ → K a w) := hK
          clear hK ho
          have HS := Lib.hid hs
          have HM := Lib.hid hm
          have HI := Lib.hid hi
          clear hs ha hm hi
          go_simp
          exact HK.out _ _ ⟨upd e 29 true, (upd t 112 _), rfl, rfl, by rw [upd_self H23.out]; exact HS.out.skip (i := 29) rfl, (by exact HM.out.st2 DP.out HI.out)⟩
        | 30, ho, hi, ha =>
          obtain rfl : _ = o := Option.some.inj ho
          have hi : e 30 = false := hi
          have T27 : t 116 = .int .i64 (ec : Nat) := hs.val 27 rfl (ha { on := 27, ground := .data } (by simp) rfl)
          have H27 := Lib.hid T27
          refine wpOp_step (i := 30) rfl (fun K hK => ?_)
          have HK : Shut (∀ a w, _ → K a w) := hK
          clear hK ho
          have HS := Lib.hid hs
          have HM := Lib.hid hm
          have HI := Lib.hid hi
          clear hs ha hm hi
          go_simp
          exact HK.out _ _ ⟨upd e 30 true, upd (upd t 116 _) 4 _, rfl, rfl, by rw [upd_self H27.out]; exact HS.out.put ok (i := 30) rfl, (by exact HM.out.mark (by decide) (by decide))⟩
        | k + 31, ho, hi, ha => simp at ho
      case done =>
        rintro lq_ aq_ wr ⟨e, t, rfl, rfl, hs, hm⟩ hr
        have hd := ready_done hr rfl (by decide +kernel)
        have hT4 : t 4 = .int .i64 (ec : Nat) := hs.val 30 rfl (hd 30 (by decide))
        obtain ⟨z1', ⟨e6, e7⟩, z3', z4'⟩ := hm.fin (hd 29 (by decide)) HF.out
        obtain ⟨e0, e1, e2, e3, e4, e5⟩ := z1'.box
        clear z1' hd hr hs hm
        go_wp2
        refine bodyPost_ret (v := .tuple #[.agg #[.int .i64 0, .int .i64 0, .slice none 0 0, .slice none 0 0, .int .i64 0, .slice none 0 0], .agg #[.int .i64 (x.line : Nat), .int .i64 (x.col : Nat)], .int .i64 (ec : Nat)]) (by simp [results, Tryz.results13, go_sem, e0, e1, e2, e3, e4, e5, e6, e7, hT4]) rfl ?_
        rw [hps.out]
        exact ⟨_, rfl, z3', z4'⟩
  · have hkn : ¬ kd = 3 := by omega
    have hk3 : (kd == 3) = false := by simpa using hkn
    clear hx hkd
    go_quiet (fail)
    generalize hWB : WM.drewN _ = WQ
    have FB0 : Fr sb g C L (k, ec) w WQ := by rw [← hWB]; exact FR.out.next (below_drewN (Below.refl _ _) _)
    have MB0 : Mid L w xb (k, ec) WQ := by rw [← hWB]; exact MD.out.next (below_drewN (Below.refl _ _) _)
    clear FR MD hWB c0 c1 c2 t0
    obtain ⟨E, hE1, hE2, hWR⟩ : ∃ E, nF 4 (k, ec) = (k, E) ∧ E ≠ 0 ∧ wholeR L = .no k E := by
      obtain ⟨ax, bbx, A0x, m0x, C0x, A1x, m1x, C1x, zzx, A2x, m2x, C2x, _, hrel⟩ := MB0
      rcases hrel with ⟨he0, I, hRi, hIn⟩ | ⟨he0, hRi⟩
      · have he0 : ec = 0 := he0
        subst he0
        refine ⟨4, rfl, by omega, ?_⟩
        rw [e1, hRi]
        show (tokR L 3 k).nx _ = _
        unfold tokR
        rw [HX0.out]
        simp only
        rw [if_neg hc]
        rfl
      · have he0 : ec ≠ 0 := he0
        exact ⟨ec, if_neg he0, he0, by rw [e1, hRi]; rfl⟩
    have FLE := FL4 (k, ec) _ FB0.st
    rw [hE1] at FLE
    have HF0 := Lib.hid FB0
    clear MB0 FB0 e1 hE1 hc FL4
    go_wp2_with fail
    with_reducible refine FLE.mono ?_
    rintro r WB ⟨rfl, hst, kb⟩
    have FB := Lib.hid (HF0.out.kb kb hst)
    have he2 : ¬ (E : Int) = 0 := by omega
    clear HF0 hst kb FLE hk3 hkn
    have hx := HX0.out
    have hps := Lib.hid (show psOf L (wholeR L) = ⟨zIn, x.line, x.col, E⟩ by rw [hWR]; simp [psOf, hx])
    have hF0 : Fr sb g C L (k, E) w WB.drew := FB.out.next (Below.refl _ _).drew
    obtain ⟨W0, hW0⟩ : ∃ q, q = WB.drew := ⟨_, rfl⟩
    rw [← hW0] at hF0
    have HY : Hid (RM w.heap.size (x.line : Nat) (x.col : Nat) W0 (fun _ => false) WB.drew) := by rw [← hW0]; exact RM.start _ _ _ _
    obtain ⟨c0, c1, c2, _, _⟩ := FB.out.st.cells
    have hs := FB.out.st.size
    have hgl := FB.out.st.toks.1
    simp only at c1 c2
    have HF := Lib.hid hF0
    have HT := Lib.hid (hF0.st.toks.get hx)
    have HC := Lib.hid hF0.st.cells
    have hse := FB.out.sep
    clear FB hWR hx hF0 hW0
    go_wp2
    have he3 : ((E : Int) != 0) = true := by simpa using he2
    rw [he3]
    clear he3
    have ok : (planW2C sb g k L.length C x.line x.col E).ok = true := rfl
    refine region_inv (Inv := fun lq_ aq_ wr => ∃ (e : Nat → Bool) (t : Nat → Value), lq_ = #[e 0, e 1, e 2, e 3, e 4, e 5, e 6, e 7, e 8, e 9, e 10, e 11, e 12, e 13, e 14, e 15, e 16, e 17, e 18, e 19, e 20, e 21, e 22, e 23, e 24, e 25, e 26, e 27, e 28, e 29, e 30] ∧ aq_ = ⟨#[.string s, undef, .pointer (some ⟨w.heap.size, 0, none⟩), .pointer (some ⟨w.heap.size + 1, 0, none⟩), t 4, .pointer (some ⟨w.heap.size + 1 + 1, 0, none⟩), .slice (some ⟨g, 0, none⟩) L.length C, .pointer (some ⟨w3.heap.size, 0, none⟩), .int .i64 0, .pointer (some ⟨sb, 0, none⟩), .bool false, .bool false, .bool true, .bool false, .pointer (some ⟨xb, 0, none⟩), .agg #[.int .i64 0, .int .i64 0, .slice none 0 0, .slice none 0 0, .int .i64 0, .slice none 0 0], .tuple #[.slice (some ⟨g, 0, none⟩) L.length C, .agg #[.int .i64 (pl1 : Int), .int .i64 (pc1 : Int)], .int .i64 0], .string s, .tuple #[.slice (some ⟨g, 0, none⟩) L.length C, .agg #[.int .i64 (pl1 : Int), .int .i64 (pc1 : Int)], .int .i64 0], .slice (some ⟨g, 0, none⟩) L.length C, .agg #[.int .i64 (pl1 : Int), .int .i64 (pc1 : Int)], .int .i64 0, .int .i64 0, .bool false, undef, undef, undef, .slice (some ⟨g, 0, none⟩) L.length C, .agg #[.slice (some ⟨g, 0, none⟩) L.length C, .int .i64 0, .int .i64 0], .pointer (some ⟨sb, 0, none⟩), .pointer (some ⟨sb, 0, none⟩), .bool false, .pointer (some ⟨sb, 0, none⟩), .bool false, .pointer (some ⟨sb, 0, none⟩), .bool true, .pointer (some ⟨sb, 0, none⟩), .bool false, .agg #[.int .i64 0, .int .i64 0, .slice none 0 0, .slice none 0 0, .int .i64 0, .slice none 0 0], .bool false, .bool true, .bool true, .bool false, .bool true, .bool true, .bool true, .bool true, .bool false, .bool false, .bool false, undef, undef, .bool false, undef, undef, .pointer (some ⟨sb, 0, none⟩), .pointer (some ⟨sb, 0, none⟩), .pointer (some ⟨sb, 1, none⟩), .bool false, undef, undef, .bool false, undef, undef, .bool true, .pointer (some ⟨sb, 0, none⟩), .agg #[.int .i64 a, .int .i64 bb, .slice A0 m0 C0, .slice A1 m1 C1, .int .i64 zz, .slice A2 m2 C2], .bool false, undef, undef, .pointer (some ⟨sb, 0, none⟩), .pointer (some ⟨sb, 0, none⟩), .pointer (some ⟨sb, 0, none⟩), .slice (some ⟨g, 0, none⟩) L.length C, .pointer (some ⟨sb, 0, none⟩), .pointer (some ⟨sb, 0, none⟩), .pointer (some ⟨sb, 1, none⟩), .int .i64 (k : Int), .pointer (some ⟨g, k * 5, none⟩), .pointer (some ⟨g, k * 5, none⟩), .int .i64 kd, .bool true, .pointer (some ⟨sb, 0, none⟩), .tuple #[], .pointer (some ⟨sb, 0, none⟩), .pointer (some ⟨sb, 0, none⟩), .pointer (some ⟨sb, 2, none⟩), .int .i64 (E : Int), .bool true, t 89, t 90, t 91, t 92, t 93, t 94, t 95, t 96, t 97, t 98, t 99, t 100, t 101, t 102, t 103, t 104, t 105, t 106, t 107, t 108, t 109, t 110, t 111, t 112, t 113, t 114, t 115, t 116, undef, undef], []⟩ ∧ Vals (planW2C sb g k L.length C x.line x.col E) e t ∧ RM w.heap.size (x.line : Nat) (x.col : Nat) W0 e wr) (by kernel_rfl) ?step ?start ?done
    case start => exact ⟨fun _ => false, fun j => if j = 4 then .int .i64 0 else undef, rfl, rfl, Vals.start _ _, HY.out⟩
    case step =>
      rintro lq_ aq_ wr ⟨e, t, rfl, rfl, hs, hm⟩ q_ o ho hi ha
      match q_, ho, hi, ha with
      | 0, ho, hi, ha =>
        obtain rfl : _ = o := Option.some.inj ho
        have hi : e 0 = false := hi
        have B_ : IBlk (w.heap.size + 1 + 1) 36 (.int .i64 0) (.int .i64 0) (.slice none 0 0) (.slice none 0 0) (.int .i64 0) (.slice none 0 0) wr := hm.row HF.out.non (by omega) (by omega)
        obtain ⟨n0_, n1_, n2_, n3_, n4_, n5_⟩ := B_.box
        clear B_
        refine wpOp_step (i := 0) rfl (fun K hK => ?_)
        have HK : Shut (∀ a w, _ → K a w) := hK
        clear hK ho
        have HS := Lib.hid hs
        have HM := Lib.hid hm
        have HI := Lib.hid hi
        clear hs ha hm hi
        go_simp
        exact HK.out _ _ ⟨upd e 0 true, upd t 89 _, rfl, rfl, by exact HS.out.put ok (i := 0) rfl, (by exact HM.out.mark (by decide) (by decide))⟩
      | 1, ho, hi, ha =>
        obtain rfl : _ = o := Option.some.inj ho
        have hi : e 1 = false := hi
        refine wpOp_step (i := 1) rfl (fun K hK => ?_)
        have HK : Shut (∀ a w, _ → K a w) := hK
        clear hK ho
        have HS := Lib.hid hs
        have HM := Lib.hid hm
        have HI := Lib.hid hi
        clear hs ha hm hi
        go_simp
        exact HK.out _ _ ⟨upd e 1 true, upd t 90 _, rfl, rfl, by exact HS.out.put ok (i := 1) rfl, (by exact HM.out.mark (by decide) (by decide))⟩
      | 2, ho, hi, ha =>
        obtain rfl : _ = o := Option.some.inj ho
        have hi : e 2 = false := hi
        have T1 : t 90 = .pointer (some ⟨sb, 0, none⟩) := hs.val 1 rfl (ha { on := 1, ground := .data } (by simp) rfl)
        have H1 := Lib.hid T1
        refine wpOp_step (i := 2) rfl (fun K hK => ?_)
        have HK : Shut (∀ a w, _ → K a w) := hK
        clear hK ho
        have HS := Lib.hid hs
        have HM := Lib.hid hm
        have HI := Lib.hid hi
        clear hs ha hm hi
        go_simp
        exact HK.out _ _ ⟨upd e 2 true, upd (upd t 90 _) 91 _, rfl, rfl, by rw [upd_self H1.out]; exact HS.out.put ok (i := 2) rfl, (by exact HM.out.mark (by decide) (by decide))⟩
      | 3, ho, hi, ha =>
        obtain rfl : _ = o := Option.some.inj ho
        have hi : e 3 = false := hi
        have T2 : t 91 = .pointer (some ⟨sb, 0, none⟩) := hs.val 2 rfl (ha { on := 2, ground := .data } (by simp) rfl)
        have H2 := Lib.hid T2
        refine wpOp_step (i := 3) rfl (fun K hK => ?_)
        have HK : Shut (∀ a w, _ → K a w) := hK
        clear hK ho
        have HS := Lib.hid hs
        have HM := Lib.hid hm
        have HI := Lib.hid hi
        clear hs ha hm hi
        go_simp
        exact HK.out _ _ ⟨upd e 3 true, upd (upd t 91 _) 92 _, rfl, rfl, by rw [upd_self H2.out]; exact HS.out.put ok (i := 3) rfl, (by exact HM.out.mark (by decide) (by decide))⟩
      | 4, ho, hi, ha =>
        obtain rfl : _ = o := Option.some.inj ho
        have hi : e 4 = false := hi
        have T3 : t 92 = .pointer (some ⟨sb, 0, none⟩) := hs.val 3 rfl (ha { on := 3, ground := .data } (by simp) rfl)
        have H3 := Lib.hid T3
        have q_ : wr.cell? ⟨sb, 0, none⟩ = some (.slice (some ⟨g, 0, none⟩) L.length C) := hm.cell HC.out.1 (by omega) (by omega)
        refine wpOp_step (i := 4) rfl (fun K hK => ?_)
        have HK : Shut (∀ a w, _ → K a w) := hK
        clear hK ho
        have HS := Lib.hid hs
        have HM := Lib.hid hm
        have HI := Lib.hid hi
        clear hs ha hm hi
        go_simp
        exact HK.out _ _ ⟨upd e 4 true, upd (upd t 92 _) 93 _, rfl, rfl, by rw [upd_self H3.out]; exact HS.out.put ok (i := 4) rfl, (by exact HM.out.mark (by decide) (by decide))⟩
      | 5, ho, hi, ha =>
        obtain rfl : _ = o := Option.some.inj ho
        have hi : e 5 = false := hi
        refine wpOp_step (i := 5) rfl (fun K hK => ?_)
        have HK : Shut (∀ a w, _ → K a w) := hK
        clear hK ho
        have HS := Lib.hid hs
        have HM := Lib.hid hm
        have HI := Lib.hid hi
        clear hs ha hm hi
        go_simp
        exact HK.out _ _ ⟨upd e 5 true, upd t 94 _, rfl, rfl, by exact HS.out.put ok (i := 5) rfl, (by exact HM.out.mark (by decide) (by decide))⟩
      | 6, ho, hi, ha =>
        obtain rfl : _ = o := Option.some.inj ho
        have hi : e 6 = false := hi
        have T5 : t 94 = .pointer (some ⟨sb, 0, none⟩) := hs.val 5 rfl (ha { on := 5, ground := .data } (by simp) rfl)
        have H5 := Lib.hid T5
        refine wpOp_step (i := 6) rfl (fun K hK => ?_)
        have HK : Shut (∀ a w, _ → K a w) := hK
        clear hK ho
        have HS := Lib.hid hs
        have HM := Lib.hid hm
        have HI := Lib.hid hi
        clear hs ha hm hi
        go_simp
        exact HK.out _ _ ⟨upd e 6 true, upd (upd t 94 _) 95 _, rfl, rfl, by rw [upd_self H5.out]; exact HS.out.put ok (i := 6) rfl, (by exact HM.out.mark (by decide) (by decide))⟩
      | 7, ho, hi, ha =>
        obtain rfl : _ = o := Option.some.inj ho
        have hi : e 7 = false := hi
        have T6 : t 95 = .pointer (some ⟨sb, 0, none⟩) := hs.val 6 rfl (ha { on := 6, ground := .data } (by simp) rfl)
        have H6 := Lib.hid T6
        refine wpOp_step (i := 7) rfl (fun K hK => ?_)
        have HK : Shut (∀ a w, _ → K a w) := hK
        clear hK ho
        have HS := Lib.hid hs
        have HM := Lib.hid hm
        have HI := Lib.hid hi
        clear hs ha hm hi
        go_simp
        exact HK.out _ _ ⟨upd e 7 true, upd (upd t 95 _) 96 _, rfl, rfl, by rw [upd_self H6.out]; exact HS.out.put ok (i := 7) rfl, (by exact HM.out.mark (by decide) (by decide))⟩
      | 8, ho, hi, ha =>
        obtain rfl : _ = o := Option.some.inj ho
        have hi : e 8 = false := hi
        have T7 : t 96 = .pointer (some ⟨sb, 1, none⟩) := hs.val 7 rfl (ha { on := 7, ground := .data } (by simp) rfl)
        have H7 := Lib.hid T7
        have q_ : wr.cell? ⟨sb, 1, none⟩ = some (.int .i64 (k : Nat)) := hm.cell HC.out.2.1 (by omega) (by omega)
        refine wpOp_step (i := 8) rfl (fun K hK => ?_)
        have HK : Shut (∀ a w, _ → K a w) := hK
        clear hK ho
        have HS := Lib.hid hs
        have HM := Lib.hid hm
        have HI := Lib.hid hi
        clear hs ha hm hi
        go_simp
        exact HK.out _ _ ⟨upd e 8 true, upd (upd t 96 _) 97 _, rfl, rfl, by rw [upd_self H7.out]; exact HS.out.put ok (i := 8) rfl, (by exact HM.out.mark (by decide) (by decide))⟩
      | 9, ho, hi, ha =>
        obtain rfl : _ = o := Option.some.inj ho
        have hi : e 9 = false := hi
        have T4 : t 93 = .slice (some ⟨g, 0, none⟩) L.length C := hs.val 4 rfl (ha { on := 4, ground := .data } (by simp) rfl)
        have H4 := Lib.hid T4
        have T8 : t 97 = .int .i64 (k : Nat) := hs.val 8 rfl (ha { on := 8, ground := .data } (by simp) rfl)
        have H8 := Lib.hid T8
        refine wpOp_step (i := 9) rfl (fun K hK => ?_)
        have HK : Shut (∀ a w, _ → K a w) := hK
        clear hK ho
        have HS := Lib.hid hs
        have HM := Lib.hid hm
        have HI := Lib.hid hi
        clear hs ha hm hi
        go_simp
        exact HK.out _ _ ⟨upd e 9 true, upd (upd (upd t 93 _) 97 _) 98 _, rfl, rfl, by rw [upd_self H4.out, upd_self H8.out]; exact HS.out.put ok (i := 9) rfl, (by exact HM.out.mark (by decide) (by decide))⟩
      | 10, ho, hi, ha =>
        obtain rfl : _ = o := Option.some.inj ho
        have hi : e 10 = false := hi
        have T9 : t 98 = .pointer (some ⟨g, k * 5, none⟩) := hs.val 9 rfl (ha { on := 9, ground := .data } (by simp) rfl)
        have H9 := Lib.hid T9
        refine wpOp_step (i := 10) rfl (fun K hK => ?_)
        have HK : Shut (∀ a w, _ → K a w) := hK
        clear hK ho
        have HS := Lib.hid hs
        have HM := Lib.hid hm
        have HI := Lib.hid hi
        clear hs ha hm hi
        go_simp
        exact HK.out _ _ ⟨upd e 10 true, upd (upd t 98 _) 99 _, rfl, rfl, by rw [upd_self H9.out]; exact HS.out.put ok (i := 10) rfl, (by exact HM.out.mark (by decide) (by decide))⟩
      | 11, ho, hi, ha =>
        obtain rfl : _ = o := Option.some.inj ho
        have hi : e 11 = false := hi
        have T10 : t 99 = .pointer (some ⟨g, k * 5 + 3, none⟩) := hs.val 10 rfl (ha { on := 10, ground := .data } (by simp) rfl)
        have H10 := Lib.hid T10
        have q_ : wr.cell? ⟨g, k * 5 + 3, none⟩ = some (.int .i64 (x.line : Nat)) := hm.cell HT.out.2.2.2.1 (by omega) (by omega)
        refine wpOp_step (i := 11) rfl (fun K hK => ?_)
        have HK : Shut (∀ a w, _ → K a w) := hK
        clear hK ho
        have HS := Lib.hid hs
        have HM := Lib.hid hm
        have HI := Lib.hid hi
        clear hs ha hm hi
        go_simp
        exact HK.out _ _ ⟨upd e 11 true, upd (upd t 99 _) 100 _, rfl, rfl, by rw [upd_self H10.out]; exact HS.out.put ok (i := 11) rfl, (by exact HM.out.mark (by decide) (by decide))⟩
      | 12, ho, hi, ha =>
        obtain rfl : _ = o := Option.some.inj ho
        have hi : e 12 = false := hi
        refine wpOp_step (i := 12) rfl (fun K hK => ?_)
        have HK : Shut (∀ a w, _ → K a w) := hK
        clear hK ho
        have HS := Lib.hid hs
        have HM := Lib.hid hm
        have HI := Lib.hid hi
        clear hs ha hm hi
        go_simp
        exact HK.out _ _ ⟨upd e 12 true, upd t 101 _, rfl, rfl, by exact HS.out.put ok (i := 12) rfl, (by exact HM.out.mark (by decide) (by decide))⟩
      | 13, ho, hi, ha =>
        obtain rfl : _ = o := Option.some.inj ho
        have hi : e 13 = false := hi
        have T12 : t 101 = .pointer (some ⟨sb, 0, none⟩) := hs.val 12 rfl (ha { on := 12, ground := .data } (by simp) rfl)
        have H12 := Lib.hid T12
        refine wpOp_step (i := 13) rfl (fun K hK => ?_)
        have HK : Shut (∀ a w, _ → K a w) := hK
        clear hK ho
        have HS := Lib.hid hs
        have HM := Lib.hid hm
        have HI := Lib.hid hi
        clear hs ha hm hi
        go_simp
        exact HK.out _ _ ⟨upd e 13 true, upd (upd t 101 _) 102 _, rfl, rfl, by rw [upd_self H12.out]; exact HS.out.put ok (i := 13) rfl, (by exact HM.out.mark (by decide) (by decide))⟩
      | 14, ho, hi, ha =>
        obtain rfl : _ = o := Option.some.inj ho
        have hi : e 14 = false := hi
        have T13 : t 102 = .pointer (some ⟨sb, 0, none⟩) := hs.val 13 rfl (ha { on := 13, ground := .data } (by simp) rfl)
        have H13 := Lib.hid T13
        refine wpOp_step (i := 14) rfl (fun K hK => ?_)
        have HK : Shut (∀ a w, _ → K a w) := hK
        clear hK ho
        have HS := Lib.hid hs
        have HM := Lib.hid hm
        have HI := Lib.hid hi
        clear hs ha hm hi
        go_simp
        exact HK.out _ _ ⟨upd e 14 true, upd (upd t 102 _) 103 _, rfl, rfl, by rw [upd_self H13.out]; exact HS.out.put ok (i := 14) rfl, (by exact HM.out.mark (by decide) (by decide))⟩
      | 15, ho, hi, ha =>
        obtain rfl : _ = o := Option.some.inj ho
        have hi : e 15 = false := hi
        have T14 : t 103 = .pointer (some ⟨sb, 0, none⟩) := hs.val 14 rfl (ha { on := 14, ground := .data } (by simp) rfl)
        have H14 := Lib.hid T14
        have q_ : wr.cell? ⟨sb, 0, none⟩ = some (.slice (some ⟨g, 0, none⟩) L.length C) := hm.cell HC.out.1 (by omega) (by omega)
        refine wpOp_step (i := 15) rfl (fun K hK => ?_)
        have HK : Shut (∀ a w, _ → K a w) := hK
        clear hK ho
        have HS := Lib.hid hs
        have HM := Lib.hid hm
        have HI := Lib.hid hi
        clear hs ha hm hi
        go_simp
        exact HK.out _ _ ⟨upd e 15 true, upd (upd t 103 _) 104 _, rfl, rfl, by rw [upd_self H14.out]; exact HS.out.put ok (i := 15) rfl, (by exact HM.out.mark (by decide) (by decide))⟩
      | 16, ho, hi, ha =>
        obtain rfl : _ = o := Option.some.inj ho
        have hi : e 16 = false := hi
        refine wpOp_step (i := 16) rfl (fun K hK => ?_)
        have HK : Shut (∀ a w, _ → K a w) := hK
        clear hK ho
        have HS := Lib.hid hs
        have HM := Lib.hid hm
        have HI := Lib.hid hi
        clear hs ha hm hi
        go_simp
        exact HK.out _ _ ⟨upd e 16 true, upd t 105 _, rfl, rfl, by exact HS.out.put ok (i := 16) rfl, (by exact HM.out.mark (by decide) (by decide))⟩
      | 17, ho, hi, ha =>
        obtain rfl : _ = o := Option.some.inj ho
        have hi : e 17 = false := hi
        have T16 : t 105 = .pointer (some ⟨sb, 0, none⟩) := hs.val 16 rfl (ha { on := 16, ground := .data } (by simp) rfl)
        have H16 := Lib.hid T16
        refine wpOp_step (i := 17) rfl (fun K hK => ?_)
        have HK : Shut (∀ a w, _ → K a w) := hK
        clear hK ho
        have HS := Lib.hid hs
        have HM := Lib.hid hm
        have HI := Lib.hid hi
        clear hs ha hm hi
        go_simp
        exact HK.out _ _ ⟨upd e 17 true, upd (upd t 105 _) 106 _, rfl, rfl, by rw [upd_self H16.out]; exact HS.out.put ok (i := 17) rfl, (by exact HM.out.mark (by decide) (by decide))⟩
      | 18, ho, hi, ha =>
        obtain rfl : _ = o := Option.some.inj ho
        have hi : e 18 = false := hi
        have T17 : t 106 = .pointer (some ⟨sb, 0, none⟩) := hs.val 17 rfl (ha { on := 17, ground := .data } (by simp) rfl)
        have H17 := Lib.hid T17
        refine wpOp_step (i := 18) rfl (fun K hK => ?_)
        have HK : Shut (∀ a w, _ → K a w) := hK
        clear hK ho
        have HS := Lib.hid hs
        have HM := Lib.hid hm
        have HI := Lib.hid hi
        clear hs ha hm hi
        go_simp
        exact HK.out _ _ ⟨upd e 18 true, upd (upd t 106 _) 107 _, rfl, rfl, by rw [upd_self H17.out]; exact HS.out.put ok (i := 18) rfl, (by exact HM.out.mark (by decide) (by decide))⟩
      | 19, ho, hi, ha =>
        obtain rfl : _ = o := Option.some.inj ho
        have hi : e 19 = false := hi
        have T18 : t 107 = .pointer (some ⟨sb, 1, none⟩) := hs.val 18 rfl (ha { on := 18, ground := .data } (by simp) rfl)
        have H18 := Lib.hid T18
        have q_ : wr.cell? ⟨sb, 1, none⟩ = some (.int .i64 (k : Nat)) := hm.cell HC.out.2.1 (by omega) (by omega)
        refine wpOp_step (i := 19) rfl (fun K hK => ?_)
        have HK : Shut (∀ a w, _ → K a w) := hK
        clear hK ho
        have HS := Lib.hid hs
        have HM := Lib.hid hm
        have HI := Lib.hid hi
        clear hs ha hm hi
        go_simp
        exact HK.out _ _ ⟨upd e 19 true, upd (upd t 107 _) 108 _, rfl, rfl, by rw [upd_self H18.out]; exact HS.out.put ok (i := 19) rfl, (by exact HM.out.mark (by decide) (by decide))⟩
      | 20, ho, hi, ha =>
        obtain rfl : _ = o := Option.some.inj ho
        have hi : e 20 = false := hi
        have T15 : t 104 = .slice (some ⟨g, 0, none⟩) L.length C := hs.val 15 rfl (ha { on := 15, ground := .data } (by simp) rfl)
        have H15 := Lib.hid T15
        have T19 : t 108 = .int .i64 (k : Nat) := hs.val 19 rfl (ha { on := 19, ground := .data } (by simp) rfl)
        have H19 := Lib.hid T19
        refine wpOp_step (i := 20) rfl (fun K hK => ?_)
        have HK : Shut (∀ a w, _ → K a w) := hK
        clear hK ho
        have HS := Lib.hid hs
        have HM := Lib.hid hm
        have HI := Lib.hid hi
        clear hs ha hm hi
        go_simp
        exact HK.out _ _ ⟨upd e 20 true, upd (upd (upd t 104 _) 108 _) 109 _, rfl, rfl, by rw [upd_self H15.out, upd_self H19.out]; exact HS.out.put ok (i := 20) rfl, (by exact HM.out.mark (by decide) (by decide))⟩
      | 21, ho, hi, ha =>
        obtain rfl : _ = o := Option.some.inj ho
        have hi : e 21 = false := hi
        have T20 : t 109 = .pointer (some ⟨g, k * 5, none⟩) := hs.val 20 rfl (ha { on := 20, ground := .data } (by simp) rfl)
        have H20 := Lib.hid T20
        refine wpOp_step (i := 21) rfl (fun K hK => ?_)
        have HK : Shut (∀ a w, _ → K a w) := hK
        clear hK ho
        have HS := Lib.hid hs
        have HM := Lib.hid hm
        have HI := Lib.hid hi
        clear hs ha hm hi
        go_simp
        exact HK.out _ _ ⟨upd e 21 true, upd (upd t 109 _) 110 _, rfl, rfl, by rw [upd_self H20.out]; exact HS.out.put ok (i := 21) rfl, (by exact HM.out.mark (by decide) (by decide))⟩
      | 22, ho, hi, ha =>
        obtain rfl : _ = o := Option.some.inj ho
        have hi : e 22 = false := hi
        have T21 : t 110 = .pointer (some ⟨g, k * 5 + 4, none⟩) := hs.val 21 rfl (ha { on := 21, ground := .data } (by simp) rfl)
        have H21 := Lib.hid T21
        have q_ : wr.cell? ⟨g, k * 5 + 4, none⟩ = some (.int .i64 (x.col : Nat)) := hm.cell HT.out.2.2.2.2 (by omega) (by omega)
        refine wpOp_step (i := 22) rfl (fun K hK => ?_)
        have HK : Shut (∀ a w, _ → K a w) := hK
        clear hK ho
        have HS := Lib.hid hs
        have HM := Lib.hid hm
        have HI := Lib.hid hi
        clear hs ha hm hi
        go_simp
        exact HK.out _ _ ⟨upd e 22 true, upd (upd t 110 _) 111 _, rfl, rfl, by rw [upd_self H21.out]; exact HS.out.put ok (i := 22) rfl, (by exact HM.out.mark (by decide) (by decide))⟩
      | 23, ho, hi, ha =>
        obtain rfl : _ = o := Option.some.inj ho
        have hi : e 23 = false := hi
        have T11 : t 100 = .int .i64 (x.line : Nat) := hs.val 11 rfl (ha { on := 11, ground := .data } (by simp) rfl)
        have H11 := Lib.hid T11
        have T22 : t 111 = .int .i64 (x.col : Nat) := hs.val 22 rfl (ha { on := 22, ground := .data } (by simp) rfl)
        have H22 := Lib.hid T22
        refine wpOp_step (i := 23) rfl (fun K hK => ?_)
        have HK : Shut (∀ a w, _ → K a w) := hK
        clear hK ho
        have HS := Lib.hid hs
        have HM := Lib.hid hm
        have HI := Lib.hid hi
        clear hs ha hm hi
        go_simp
        exact HK.out _ _ ⟨upd e 23 true, upd (upd (upd t 100 _) 111 _) 112 _, rfl, rfl, by rw [upd_self H11.out, upd_self H22.out]; exact HS.out.put ok (i := 23) rfl, (by exact HM.out.mark (by decide) (by decide))⟩
      | 24, ho, hi, ha =>
        obtain rfl : _ = o := Option.some.inj ho
        have hi : e 24 = false := hi
        refine wpOp_step (i := 24) rfl (fun K hK => ?_)
        have HK : Shut (∀ a w, _ → K a w) := hK
        clear hK ho
        have HS := Lib.hid hs
        have HM := Lib.hid hm
        have HI := Lib.hid hi
        clear hs ha hm hi
        go_simp
        exact HK.out _ _ ⟨upd e 24 true, upd t 113 _, rfl, rfl, by exact HS.out.put ok (i := 24) rfl, (by exact HM.out.mark (by decide) (by decide))⟩
      | 25, ho, hi, ha =>
        obtain rfl : _ = o := Option.some.inj ho
        have hi : e 25 = false := hi
        have T24 : t 113 = .pointer (some ⟨sb, 0, none⟩) := hs.val 24 rfl (ha { on := 24, ground := .data } (by simp) rfl)
        have H24 := Lib.hid T24
        refine wpOp_step (i := 25) rfl (fun K hK => ?_)
        have HK : Shut (∀ a w, _ → K a w) := hK
        clear hK ho
        have HS := Lib.hid hs
        have HM := Lib.hid hm
        have HI := Lib.hid hi
        clear hs ha hm hi
        go_simp
        exact HK.out _ _ ⟨upd e 25 true, upd (upd t 113 _) 114 _, rfl, rfl, by rw [upd_self H24.out]; exact HS.out.put ok (i := 25) rfl, (by exact HM.out.mark (by decide) (by decide))⟩
      | 26, ho, hi, ha =>
        obtain rfl : _ = o := Option.some.inj ho
        have hi : e 26 = false := hi
        have T25 : t 114 = .pointer (some ⟨sb, 0, none⟩) := hs.val 25 rfl (ha { on := 25, ground := .data } (by simp) rfl)
        have H25 := Lib.hid T25
        refine wpOp_step (i := 26) rfl (fun K hK => ?_)
        have HK : Shut (∀ a w, _ → K a w) := hK
        clear hK ho
        have HS := Lib.hid hs
        have HM := Lib.hid hm
        have HI := Lib.hid hi
        clear hs ha hm hi
        go_simp
        exact HK.out _ _ ⟨upd e 26 true, upd (upd t 114 _) 115 _, rfl, rfl, by rw [upd_self H25.out]; exact HS.out.put ok (i := 26) rfl, (by exact HM.out.mark (by decide) (by decide))⟩
      | 27, ho, hi, ha =>
        obtain rfl : _ = o := Option.some.inj ho
        have hi : e 27 = false := hi
        have T26 : t 115 = .pointer (some ⟨sb, 2, none⟩) := hs.val 26 rfl (ha { on := 26, ground := .data } (by simp) rfl)
        have H26 := Lib.hid T26
        have q_ : wr.cell? ⟨sb, 2, none⟩ = some (.int .i64 (E : Nat)) := hm.cell HC.out.2.2.1 (by omega) (by omega)
        refine wpOp_step (i := 27) rfl (fun K hK => ?_)
        have HK : Shut (∀ a w, _ → K a w) := hK
        clear hK ho
        have HS := Lib.hid hs
        have HM := Lib.hid hm
        have HI := Lib.hid hi
        clear hs ha hm hi
        go_simp
        exact HK.out _ _ ⟨upd e 27 true, upd (upd t 115 _) 116 _, rfl, rfl, by rw [upd_self H26.out]; exact HS.out.put ok (i := 27) rfl, (by exact HM.out.mark (by decide) (by decide))⟩
      | 28, ho, hi, ha =>
        obtain rfl : _ = o := Option.some.inj ho
        have hi : e 28 = false := hi
        have T0 : t 89 = .agg #[.int .i64 0, .int .i64 0, .slice none 0 0, .slice none 0 0, .int .i64 0, .slice none 0 0] := hs.val 0 rfl (ha { on := 0, ground := .data } (by simp) rfl)
        have H0 := Lib.hid T0
        have B_ : IBlk w.heap.size 36 (.int .i64 0) (.int .i64 0) (.slice none 0 0) (.slice none 0 0) (.int .i64 0) (.slice none 0 0) wr := hm.res hi HF.out.res
        obtain ⟨z0_, z1_, z2_, z3_, z4_, z5_⟩ := B_.box
        have f0_ := B_.free 0
        have f1_ := B_.free 1
        have f2_ := B_.free 2
        have f3_ := B_.free 3
        have f4_ := B_.free 4
        have f5_ := B_.free 5
        clear B_
        refine wpOp_step (i := 28) rfl (fun K hK => ?_)
        have HK : Shut (∀ a w, _ → K a w) := hK
        clear hK ho
        have HS := Lib.hid hs
        have HM := Lib.hid hm
        have HI := Lib.hid hi
        clear hs ha hm hi
        go_simp
        exact HK.out _ _ ⟨upd e 28 true, (upd t 89 _), rfl, rfl, by rw [upd_self H0.out]; exact HS.out.skip (i := 28) rfl, (by exact HM.out.st1 HI.out)⟩
      | 29, ho, hi, ha =>
        obtain rfl : _ = o := Option.some.inj ho
        have hi : e 29 = false := hi
        have T23 : t 112 = .agg #[.int .i64 (x.line : Nat), .int .i64 (x.col : Nat)] := hs.val 23 rfl (ha { on := 23, ground := .data } (by simp) rfl)
        have H23 := Lib.hid T23
        have DP : Hid (e 28 = true) := ha { on := 28, ground := .chain } (by simp) rfl
        have R_ := hm.row1 hi HF.out.pos (show w.heap.size + 1 ≠ w.heap.size by omega)
        have y0_ : wr.cell? ⟨w.heap.size + 1, 0, none⟩ = some (.int .i64 0) := by unfold World.cell?; simp only [R_]; rfl
        have y1_ : wr.cell? ⟨w.heap.size + 1, 1, none⟩ = some (.int .i64 0) := by unfold World.cell?; simp only [R_]; rfl
        have g0_ : wr.frozen? ⟨w.heap.size + 1, 0, none⟩ = false := frozen_of_row wr _ _ _ _ R_
        have g1_ : wr.frozen? ⟨w.heap.size + 1, 1, none⟩ = false := frozen_of_row wr _ _ _ _ R_
        clear R_
        refine wpOp_step (i := 29) rfl (fun K hK => ?_)
        have HK : Shut (∀ a w, _ → K a w) := hK
        clear hK ho
        have HS := Lib.hid hs
        have HM := Lib.hid hm
        have HI := Lib.hid hi
        clear hs ha hm hi
        go_simp
        exact HK.out _ _ ⟨upd e 29 true, (upd t 112 _), rfl, rfl, by rw [upd_self H23.out]; exact HS.out.skip (i := 29) rfl, (by exact HM.out.st2 DP.out HI.out)⟩
      | 30, ho, hi, ha =>
        obtain rfl : _ = o := Option.some.inj ho
        have hi : e 30 = false := hi
        have T27 : t 116 = .int .i64 (E : Nat) := hs.val 27 rfl (ha { on := 27, ground := .data } (by simp) rfl)
        have H27 := Lib.hid T27
        refine wpOp_step (i := 30) rfl (fun K hK => ?_)
        have HK : Shut (∀ a w, _ → K a w) := hK
        clear hK ho
        have HS := Lib.hid hs
        have HM := Lib.hid hm
        have HI := Lib.hid hi
        clear hs ha hm hi
        go_simp
        exact HK.out _ _ ⟨upd e 30 true, upd (upd t 116 _) 4 _, rfl, rfl, by rw [upd_self H27.out]; exact HS.out.put ok (i := 30) rfl, (by exact HM.out.mark (by decide) (by decide))⟩
      | k + 31, ho, hi, ha => simp at ho
    case done =>
      rintro lq_ aq_ wr ⟨e, t, rfl, rfl, hs, hm⟩ hr
      have hd := ready_done hr rfl (by decide +kernel)
      have hT4 : t 4 = .int .i64 (E : Nat) := hs.val 30 rfl (hd 30 (by decide))
      obtain ⟨z1', ⟨e6, e7⟩, z3', z4'⟩ := hm.fin (hd 29 (by decide)) HF.out
      obtain ⟨e0, e1, e2, e3, e4, e5⟩ := z1'.box
      clear z1' hd hr hs hm
      go_wp2
      refine bodyPost_ret (v := .tuple #[.agg #[.int .i64 0, .int .i64 0, .slice none 0 0, .slice none 0 0, .int .i64 0, .slice none 0 0], .agg #[.int .i64 (x.line : Nat), .int .i64 (x.col : Nat)], .int .i64 (E : Nat)]) (by simp [results, Tryz.results13, go_sem, e0, e1, e2, e3, e4, e5, e6, e7, hT4]) rfl ?_
      rw [hps.out]
      exact ⟨_, rfl, z3', z4'⟩
end Go.Proofs.YtbadingdklenhaaGreatDoor
