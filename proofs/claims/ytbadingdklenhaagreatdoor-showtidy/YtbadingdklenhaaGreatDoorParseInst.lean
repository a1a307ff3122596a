/-
  What the reader's instance does.
-/
import Derived.Test.YtbadingdklenhaaGreatDoorParseCover
import Derived.Test.YtbadingdklenhaaGreatDoorInstWalks
namespace Go.Proofs.YtbadingdklenhaaGreatDoor
set_option maxRecDepth 100000
open Go.RowKit

theorem WordsOk.kb {r : Nat} {w w' : World} (h : WordsOk w) (hr : r ≠ 0) (kb : Kb r w w') : WordsOk w' := fun i hi => by
  have hl : 0 < w.heap.size := cell_lt (h i hi)
  exact (kb.cell hl (Ne.symm hr)).trans (h i hi)
theorem InV {F G : Nat → Prop} {w : World} {v : Value} {I : In} (h : Ins F G w v I) : ∃ A0 n0 C0 A1 n1 C1 A2 n2 C2, v = .agg #[.int .i64 I.kind, .int .i64 I.cap, .slice A0 n0 C0, .slice A1 n1 C1, .int .i64 I.size, .slice A2 n2 C2] := by
  obtain ⟨vi, vc, vs, _, _, e, h1, h2, h3⟩ := h.form
  obtain ⟨A0, C0, rfl, _⟩ := h1.form
  obtain ⟨A1, C1, rfl, _⟩ := h2.form
  obtain ⟨A2, C2, rfl, _⟩ := h3.form
  exact ⟨A0, _, C0, A1, _, C1, A2, _, C2, e⟩
theorem ins_set6 {b : Nat} {v0 v1 v2 v3 v4 v5 : Value} {w w0 : World} {M : Nat} {v : Value} {I : In} (h : Ins (fun q => M ≤ q) (fun q => M ≤ q) w v I) (hb : b < M) (hw : w0.heap.size ≤ b) : Ins (fun q => w0.heap.size ≤ q) (fun q => w0.heap.size ≤ q) (set6 b v0 v1 v2 v3 v4 v5 w) v I :=
  (h.held (held_set6 fun q hq => by omega) (held_set6 fun q hq => by omega)).imp (fun q hq => by omega) (fun q hq => by omega)
theorem isW_text {L : List Tk} {x : Tk} {t : List UInt8} (hx : L[0]? = some x) (hc : x.kind = 0) : isW L t 0 = decide (x.text = t) := by
  unfold isW; rw [hx]; simp [hc]
theorem isW_kind {L : List Tk} {x : Tk} {t : List UInt8} (hx : L[0]? = some x) (hc : ¬ x.kind = 0) : isW L t 0 = false := by
  unfold isW; rw [hx]; simp [hc]
set_option maxHeartbeats 4000000 in
theorem instance_any (r g C : Nat) (L : List Tk) (hE : EndL L) (hN : L.length ≤ 2000000) (w : World) (h : RdS r g C L 0 w) (hW : WordsOk w) (hrw : r ≠ 0) :
    Calls Tryz.prog 66 #[.pointer (some ⟨r, 0, none⟩)] w (Tells r L w (instR L) (fun I v w' => Ins (fun b => w.heap.size ≤ b) (fun b => w.heap.size ≤ b) w' v I) (RdS r g C L)) := by
  obtain ⟨x, hx⟩ := hE.at h.lt
  have hr0 := h.size
  have hg0 := h.toks.1
  by_cases hc : x.kind = 0
  · have TK := fun W hW => take_okI r g C L 0 0 0 rfl W hW x hx hc
    have hg := hE.goes hx (by omega)
    have i0 := isW_text (t := kW) hx hc
    have i1 := isW_text (t := aW) hx hc
    have i2 := isW_text (t := tW) hx hc
    have i3 := isW_text (t := cW) hx hc
    obtain ⟨W0, hW0⟩ : ∃ q, word 0 = q := ⟨_, rfl⟩
    obtain ⟨W1, hW1⟩ : ∃ q, word 1 = q := ⟨_, rfl⟩
    obtain ⟨W2, hW2⟩ : ∃ q, word 2 = q := ⟨_, rfl⟩
    obtain ⟨W3, hW3⟩ : ∃ q, word 3 = q := ⟨_, rfl⟩
    have N0 : ∀ W, WordsOk W → Calls Tryz.prog 42 #[.int .i64 0] W fun e w' => e = .returned (.string W0) ∧ Below W.heap.size W w' := fun W a => by have := name_any 0 W a; rw [show name 0 = word 0 from rfl, hW0] at this; exact this
    have N1 : ∀ W, WordsOk W → Calls Tryz.prog 42 #[.int .i64 1] W fun e w' => e = .returned (.string W1) ∧ Below W.heap.size W w' := fun W a => by have := name_any 1 W a; rw [show name 1 = word 1 from rfl, hW1] at this; exact this
    have N2 : ∀ W, WordsOk W → Calls Tryz.prog 42 #[.int .i64 2] W fun e w' => e = .returned (.string W2) ∧ Below W.heap.size W w' := fun W a => by have := name_any 2 W a; rw [show name 2 = word 2 from rfl, hW2] at this; exact this
    have N3 : ∀ W, WordsOk W → Calls Tryz.prog 42 #[.int .i64 3] W fun e w' => e = .returned (.string W3) ∧ Below W.heap.size W w' := fun W a => by have := name_any 3 W a; rw [show name 3 = word 3 from rfl, hW3] at this; exact this
    have t0 : (⟨x.text.toArray⟩ : ByteArray) = W0 ↔ x.text = kW := by rw [← hW0, ba_eq]; rfl
    have t1 : (⟨x.text.toArray⟩ : ByteArray) = W1 ↔ x.text = aW := by rw [← hW1, ba_eq]; rfl
    have t2 : (⟨x.text.toArray⟩ : ByteArray) = W2 ↔ x.text = tW := by rw [← hW2, ba_eq]; rfl
    have t3 : (⟨x.text.toArray⟩ : ByteArray) = W3 ↔ x.text = cW := by rw [← hW3, ba_eq]; rfl
    have hF4 := fltV_at hx 4
    have HI0 := Lib.hid (iblk_new w (.int .i64 0) (.int .i64 0) (.slice none 0 0) (.slice none 0 0) (.int .i64 0) (.slice none 0 0) 33)
    clear hW0 hW1 hW2 hW3
    unfold tkV at TK
    obtain ⟨T, hT⟩ : ∃ T, (⟨x.text.toArray⟩ : ByteArray) = T := ⟨_, rfl⟩
    rw [hT] at TK t0 t1 t2 t3
    clear hT
    by_cases q0 : T = W0
    · have e0 : instR L = knapR L 1 := by
        unfold instR
        rw [i0]
        rw [if_pos (by simp; exact t0.1 q0)]
      rw [e0]
      have CA := fun W hW => knapsack_any r g C L hE 1 W hW
      obtain ⟨RR, hRR⟩ : ∃ RR, knapR L 1 = RR := ⟨_, rfl⟩
      rw [hRR] at CA ⊢
      subst q0
      clear i0 i1 i2 i3 t0 t1 t2 t3 e0 hF4 hRR hx hN hc
      go_enter Tryz.func66, Tryz.ntmps66
      go_wp2_with fail
      with_reducible refine (TK _ (h.next (new_below _ _))).mono ?_
      rintro e w1 ⟨rfl, h1, kb⟩
      have hdz := Lib.hid ((h1 hg).next (new_below w1 (.cells #[.int .i64 (x.kind : Nat), .string T, .int .i64 x.n, .int .i64 (x.line : Nat), .int .i64 (x.col : Nat)] 122)))
      have hbz := Lib.hid (((Kb.of (r := r) (new_below w (.cells #[.int .i64 0, .int .i64 0, .slice none 0 0, .slice none 0 0, .int .i64 0, .slice none 0 0] 33))).trans kb).alloc (.cells #[.int .i64 (x.kind : Nat), .string T, .int .i64 x.n, .int .i64 (x.line : Nat), .int .i64 (x.col : Nat)] 122))
      have HW0 := Lib.hid (hW.kb hrw hbz.out)
      have hRb := Lib.hid ((HI0.out.kb kb (by omega)).next (new_below w1 (.cells #[.int .i64 (x.kind : Nat), .string T, .int .i64 x.n, .int .i64 (x.line : Nat), .int .i64 (x.col : Nat)] 122)))
      have xtz := tbox_new w1 (.int .i64 (x.kind : Nat)) (.string T) (.int .i64 x.n) (.int .i64 (x.line : Nat)) (.int .i64 (x.col : Nat)) 122
      clear h1 kb
      go_wp2_with fail
      with_reducible refine (N0 _ HW0.out).mono ?_
      rintro e v0 ⟨rfl, m0⟩
      have hb0 := Lib.hid (hbz.out.trans (Kb.of m0))
      have hd0 := Lib.hid (hdz.out.next m0)
      have HW1 := Lib.hid (HW0.out.next m0)
      have hR0 := Lib.hid (hRb.out.next m0)
      have xt0 := xtz.next m0
      clear m0
      cases RR with
      | no j er =>
        simp only [tells_no] at CA
        unfold Dies at CA
        go_wp2_with fail
        with_reducible refine (CA _ hd0.out).mono ?_
        rintro e w9 ⟨rfl, kb⟩
        go_wp2
        exact ⟨rfl, show Dies L j er _ ∧ _ from ⟨rfl, hb0.out.trans kb⟩⟩
      | ok I k9 =>
        simp only [tells_ok] at CA
        go_wp2_with fail
        with_reducible refine (CA _ hd0.out).mono ?_
        rintro e w9 ⟨v9, rfl, hI, hr9, kb⟩
        have HRb := Lib.hid (hR0.out.kb kb (by omega))
        have HLT := Lib.hid (hR0.out.lt)
        have hlt9 := HLT.out
        obtain ⟨A0, n0, C0, A1, n1, C1, A2, n2, C2, rfl⟩ := InV hI
        obtain ⟨e0, e1, e2, e3, e4, e5⟩ := HRb.out.box
        have f := HRb.out.free
        have f0 := f 0
        have f1 := f 1
        have f2 := f 2
        have f3 := f 3
        have f4 := f 4
        have f5 := f 5
        have HI9 := Lib.hid hI
        have HR9 := Lib.hid hr9
        have HK9 := Lib.hid (hb0.out.trans kb)
        clear f hI hr9 kb
        go_wp2
        refine bodyPost_ret (v := inV I (.slice A0 n0 C0) (.slice A1 n1 C1) (.slice A2 n2 C2)) (by simp [results, Tryz.results66, go_sem, inV, e0, e1, e2, e3, e4, e5]) rfl ?_
        rw [tells_ok]
        exact ⟨_, rfl, ins_set6 HI9.out hlt9 (Nat.le_refl _), HR9.out.set6 (by omega) (by omega), HK9.out.set6 (Nat.le_refl _)⟩
    by_cases q1 : T = W1
    · have e0 : instR L = squareR L 1 1 := by
        unfold instR
        rw [i0, i1]
        rw [if_neg (by simp; exact fun a => q0 (t0.2 a)), if_pos (by simp; exact t1.1 q1)]
      rw [e0]
      have CA := fun W hW => square_any r g C L hE 1 1 W hW
      obtain ⟨RR, hRR⟩ : ∃ RR, squareR L 1 1 = RR := ⟨_, rfl⟩
      rw [hRR] at CA ⊢
      have p0 := ba_ne q0
      subst q1
      clear i0 i1 i2 i3 t0 t1 t2 t3 e0 hF4 hRR hx hN hc q0
      go_enter Tryz.func66, Tryz.ntmps66
      go_wp2_with fail
      with_reducible refine (TK _ (h.next (new_below _ _))).mono ?_
      rintro e w1 ⟨rfl, h1, kb⟩
      have hdz := Lib.hid ((h1 hg).next (new_below w1 (.cells #[.int .i64 (x.kind : Nat), .string T, .int .i64 x.n, .int .i64 (x.line : Nat), .int .i64 (x.col : Nat)] 122)))
      have hbz := Lib.hid (((Kb.of (r := r) (new_below w (.cells #[.int .i64 0, .int .i64 0, .slice none 0 0, .slice none 0 0, .int .i64 0, .slice none 0 0] 33))).trans kb).alloc (.cells #[.int .i64 (x.kind : Nat), .string T, .int .i64 x.n, .int .i64 (x.line : Nat), .int .i64 (x.col : Nat)] 122))
      have HW0 := Lib.hid (hW.kb hrw hbz.out)
      have hRb := Lib.hid ((HI0.out.kb kb (by omega)).next (new_below w1 (.cells #[.int .i64 (x.kind : Nat), .string T, .int .i64 x.n, .int .i64 (x.line : Nat), .int .i64 (x.col : Nat)] 122)))
      have xtz := tbox_new w1 (.int .i64 (x.kind : Nat)) (.string T) (.int .i64 x.n) (.int .i64 (x.line : Nat)) (.int .i64 (x.col : Nat)) 122
      clear h1 kb
      go_wp2_with fail
      with_reducible refine (N0 _ HW0.out).mono ?_
      rintro e v0 ⟨rfl, m0⟩
      have hb0 := Lib.hid (hbz.out.trans (Kb.of m0))
      have hd0 := Lib.hid (hdz.out.next m0)
      have HW1 := Lib.hid (HW0.out.next m0)
      have hR0 := Lib.hid (hRb.out.next m0)
      have xt0 := xtz.next m0
      clear m0
      go_wp2_with fail
      with_reducible refine (N1 _ HW1.out).mono ?_
      rintro e v1 ⟨rfl, m1⟩
      have hb1 := Lib.hid (hb0.out.trans (Kb.of m1))
      have hd1 := Lib.hid (hd0.out.next m1)
      have HW2 := Lib.hid (HW1.out.next m1)
      have hR1 := Lib.hid (hR0.out.next m1)
      have xt1 := xt0.next m1
      clear m1
      cases RR with
      | no j er =>
        simp only [tells_no] at CA
        unfold Dies at CA
        go_wp2_with fail
        with_reducible refine (CA _ hd1.out).mono ?_
        rintro e w9 ⟨rfl, kb⟩
        go_wp2
        exact ⟨rfl, show Dies L j er _ ∧ _ from ⟨rfl, hb1.out.trans kb⟩⟩
      | ok I k9 =>
        simp only [tells_ok] at CA
        go_wp2_with fail
        with_reducible refine (CA _ hd1.out).mono ?_
        rintro e w9 ⟨v9, rfl, hI, hr9, kb⟩
        have HRb := Lib.hid (hR1.out.kb kb (by omega))
        have HLT := Lib.hid (hR1.out.lt)
        have hlt9 := HLT.out
        obtain ⟨A0, n0, C0, A1, n1, C1, A2, n2, C2, rfl⟩ := InV hI
        obtain ⟨e0, e1, e2, e3, e4, e5⟩ := HRb.out.box
        have f := HRb.out.free
        have f0 := f 0
        have f1 := f 1
        have f2 := f 2
        have f3 := f 3
        have f4 := f 4
        have f5 := f 5
        have HI9 := Lib.hid hI
        have HR9 := Lib.hid hr9
        have HK9 := Lib.hid (hb1.out.trans kb)
        clear f hI hr9 kb
        go_wp2
        refine bodyPost_ret (v := inV I (.slice A0 n0 C0) (.slice A1 n1 C1) (.slice A2 n2 C2)) (by simp [results, Tryz.results66, go_sem, inV, e0, e1, e2, e3, e4, e5]) rfl ?_
        rw [tells_ok]
        exact ⟨_, rfl, ins_set6 HI9.out hlt9 (Nat.le_refl _), HR9.out.set6 (by omega) (by omega), HK9.out.set6 (Nat.le_refl _)⟩
    by_cases q2 : T = W2
    · have e0 : instR L = squareR L 2 1 := by
        unfold instR
        rw [i0, i1, i2]
        rw [if_neg (by simp; exact fun a => q0 (t0.2 a)), if_neg (by simp; exact fun a => q1 (t1.2 a)), if_pos (by simp; exact t2.1 q2)]
      rw [e0]
      have CA := fun W hW => square_any r g C L hE 1 2 W hW
      obtain ⟨RR, hRR⟩ : ∃ RR, squareR L 2 1 = RR := ⟨_, rfl⟩
      rw [hRR] at CA ⊢
      have p0 := ba_ne q0
      have p1 := ba_ne q1
      subst q2
      clear i0 i1 i2 i3 t0 t1 t2 t3 e0 hF4 hRR hx hN hc q0 q1
      go_enter Tryz.func66, Tryz.ntmps66
      go_wp2_with fail
      with_reducible refine (TK _ (h.next (new_below _ _))).mono ?_
      rintro e w1 ⟨rfl, h1, kb⟩
      have hdz := Lib.hid ((h1 hg).next (new_below w1 (.cells #[.int .i64 (x.kind : Nat), .string T, .int .i64 x.n, .int .i64 (x.line : Nat), .int .i64 (x.col : Nat)] 122)))
      have hbz := Lib.hid (((Kb.of (r := r) (new_below w (.cells #[.int .i64 0, .int .i64 0, .slice none 0 0, .slice none 0 0, .int .i64 0, .slice none 0 0] 33))).trans kb).alloc (.cells #[.int .i64 (x.kind : Nat), .string T, .int .i64 x.n, .int .i64 (x.line : Nat), .int .i64 (x.col : Nat)] 122))
      have HW0 := Lib.hid (hW.kb hrw hbz.out)
      have hRb := Lib.hid ((HI0.out.kb kb (by omega)).next (new_below w1 (.cells #[.int .i64 (x.kind : Nat), .string T, .int .i64 x.n, .int .i64 (x.line : Nat), .int .i64 (x.col : Nat)] 122)))
      have xtz := tbox_new w1 (.int .i64 (x.kind : Nat)) (.string T) (.int .i64 x.n) (.int .i64 (x.line : Nat)) (.int .i64 (x.col : Nat)) 122
      clear h1 kb
      go_wp2_with fail
      with_reducible refine (N0 _ HW0.out).mono ?_
      rintro e v0 ⟨rfl, m0⟩
      have hb0 := Lib.hid (hbz.out.trans (Kb.of m0))
      have hd0 := Lib.hid (hdz.out.next m0)
      have HW1 := Lib.hid (HW0.out.next m0)
      have hR0 := Lib.hid (hRb.out.next m0)
      have xt0 := xtz.next m0
      clear m0
      go_wp2_with fail
      with_reducible refine (N1 _ HW1.out).mono ?_
      rintro e v1 ⟨rfl, m1⟩
      have hb1 := Lib.hid (hb0.out.trans (Kb.of m1))
      have hd1 := Lib.hid (hd0.out.next m1)
      have HW2 := Lib.hid (HW1.out.next m1)
      have hR1 := Lib.hid (hR0.out.next m1)
      have xt1 := xt0.next m1
      clear m1
      go_wp2_with fail
      with_reducible refine (N2 _ HW2.out).mono ?_
      rintro e v2 ⟨rfl, m2⟩
      have hb2 := Lib.hid (hb1.out.trans (Kb.of m2))
      have hd2 := Lib.hid (hd1.out.next m2)
      have HW3 := Lib.hid (HW2.out.next m2)
      have hR2 := Lib.hid (hR1.out.next m2)
      have xt2 := xt1.next m2
      clear m2
      cases RR with
      | no j er =>
        simp only [tells_no] at CA
        unfold Dies at CA
        go_wp2_with fail
        with_reducible refine (CA _ hd2.out).mono ?_
        rintro e w9 ⟨rfl, kb⟩
        go_wp2
        exact ⟨rfl, show Dies L j er _ ∧ _ from ⟨rfl, hb2.out.trans kb⟩⟩
      | ok I k9 =>
        simp only [tells_ok] at CA
        go_wp2_with fail
        with_reducible refine (CA _ hd2.out).mono ?_
        rintro e w9 ⟨v9, rfl, hI, hr9, kb⟩
        have HRb := Lib.hid (hR2.out.kb kb (by omega))
        have HLT := Lib.hid (hR2.out.lt)
        have hlt9 := HLT.out
        obtain ⟨A0, n0, C0, A1, n1, C1, A2, n2, C2, rfl⟩ := InV hI
        obtain ⟨e0, e1, e2, e3, e4, e5⟩ := HRb.out.box
        have f := HRb.out.free
        have f0 := f 0
        have f1 := f 1
        have f2 := f 2
        have f3 := f 3
        have f4 := f 4
        have f5 := f 5
        have HI9 := Lib.hid hI
        have HR9 := Lib.hid hr9
        have HK9 := Lib.hid (hb2.out.trans kb)
        clear f hI hr9 kb
        go_wp2
        refine bodyPost_ret (v := inV I (.slice A0 n0 C0) (.slice A1 n1 C1) (.slice A2 n2 C2)) (by simp [results, Tryz.results66, go_sem, inV, e0, e1, e2, e3, e4, e5]) rfl ?_
        rw [tells_ok]
        exact ⟨_, rfl, ins_set6 HI9.out hlt9 (Nat.le_refl _), HR9.out.set6 (by omega) (by omega), HK9.out.set6 (Nat.le_refl _)⟩
    by_cases q3 : T = W3
    · have e0 : instR L = coverR L 1 := by
        unfold instR
        rw [i0, i1, i2, i3]
        rw [if_neg (by simp; exact fun a => q0 (t0.2 a)), if_neg (by simp; exact fun a => q1 (t1.2 a)), if_neg (by simp; exact fun a => q2 (t2.2 a)), if_pos (by simp; exact t3.1 q3)]
      rw [e0]
      have CA := fun W hW => cover_any r g C L hE hN 1 W hW
      obtain ⟨RR, hRR⟩ : ∃ RR, coverR L 1 = RR := ⟨_, rfl⟩
      rw [hRR] at CA ⊢
      have p0 := ba_ne q0
      have p1 := ba_ne q1
      have p2 := ba_ne q2
      subst q3
      clear i0 i1 i2 i3 t0 t1 t2 t3 e0 hF4 hRR hx hN hc q0 q1 q2
      go_enter Tryz.func66, Tryz.ntmps66
      go_wp2_with fail
      with_reducible refine (TK _ (h.next (new_below _ _))).mono ?_
      rintro e w1 ⟨rfl, h1, kb⟩
      have hdz := Lib.hid ((h1 hg).next (new_below w1 (.cells #[.int .i64 (x.kind : Nat), .string T, .int .i64 x.n, .int .i64 (x.line : Nat), .int .i64 (x.col : Nat)] 122)))
      have hbz := Lib.hid (((Kb.of (r := r) (new_below w (.cells #[.int .i64 0, .int .i64 0, .slice none 0 0, .slice none 0 0, .int .i64 0, .slice none 0 0] 33))).trans kb).alloc (.cells #[.int .i64 (x.kind : Nat), .string T, .int .i64 x.n, .int .i64 (x.line : Nat), .int .i64 (x.col : Nat)] 122))
      have HW0 := Lib.hid (hW.kb hrw hbz.out)
      have hRb := Lib.hid ((HI0.out.kb kb (by omega)).next (new_below w1 (.cells #[.int .i64 (x.kind : Nat), .string T, .int .i64 x.n, .int .i64 (x.line : Nat), .int .i64 (x.col : Nat)] 122)))
      have xtz := tbox_new w1 (.int .i64 (x.kind : Nat)) (.string T) (.int .i64 x.n) (.int .i64 (x.line : Nat)) (.int .i64 (x.col : Nat)) 122
      clear h1 kb
      go_wp2_with fail
      with_reducible refine (N0 _ HW0.out).mono ?_
      rintro e v0 ⟨rfl, m0⟩
      have hb0 := Lib.hid (hbz.out.trans (Kb.of m0))
      have hd0 := Lib.hid (hdz.out.next m0)
      have HW1 := Lib.hid (HW0.out.next m0)
      have hR0 := Lib.hid (hRb.out.next m0)
      have xt0 := xtz.next m0
      clear m0
      go_wp2_with fail
      with_reducible refine (N1 _ HW1.out).mono ?_
      rintro e v1 ⟨rfl, m1⟩
      have hb1 := Lib.hid (hb0.out.trans (Kb.of m1))
      have hd1 := Lib.hid (hd0.out.next m1)
      have HW2 := Lib.hid (HW1.out.next m1)
      have hR1 := Lib.hid (hR0.out.next m1)
      have xt1 := xt0.next m1
      clear m1
      go_wp2_with fail
      with_reducible refine (N2 _ HW2.out).mono ?_
      rintro e v2 ⟨rfl, m2⟩
      have hb2 := Lib.hid (hb1.out.trans (Kb.of m2))
      have hd2 := Lib.hid (hd1.out.next m2)
      have HW3 := Lib.hid (HW2.out.next m2)
      have hR2 := Lib.hid (hR1.out.next m2)
      have xt2 := xt1.next m2
      clear m2
      go_wp2_with fail
      with_reducible refine (N3 _ HW3.out).mono ?_
      rintro e v3 ⟨rfl, m3⟩
      have hb3 := Lib.hid (hb2.out.trans (Kb.of m3))
      have hd3 := Lib.hid (hd2.out.next m3)
      have HW4 := Lib.hid (HW3.out.next m3)
      have hR3 := Lib.hid (hR2.out.next m3)
      have xt3 := xt2.next m3
      clear m3
      cases RR with
      | no j er =>
        simp only [tells_no] at CA
        unfold Dies at CA
        go_wp2_with fail
        with_reducible refine (CA _ hd3.out).mono ?_
        rintro e w9 ⟨rfl, kb⟩
        go_wp2
        exact ⟨rfl, show Dies L j er _ ∧ _ from ⟨rfl, hb3.out.trans kb⟩⟩
      | ok I k9 =>
        simp only [tells_ok] at CA
        go_wp2_with fail
        with_reducible refine (CA _ hd3.out).mono ?_
        rintro e w9 ⟨v9, rfl, hI, hr9, kb⟩
        have HRb := Lib.hid (hR3.out.kb kb (by omega))
        have HLT := Lib.hid (hR3.out.lt)
        have hlt9 := HLT.out
        obtain ⟨A0, n0, C0, A1, n1, C1, A2, n2, C2, rfl⟩ := InV hI
        obtain ⟨e0, e1, e2, e3, e4, e5⟩ := HRb.out.box
        have f := HRb.out.free
        have f0 := f 0
        have f1 := f 1
        have f2 := f 2
        have f3 := f 3
        have f4 := f 4
        have f5 := f 5
        have HI9 := Lib.hid hI
        have HR9 := Lib.hid hr9
        have HK9 := Lib.hid (hb3.out.trans kb)
        clear f hI hr9 kb
        go_wp2
        refine bodyPost_ret (v := inV I (.slice A0 n0 C0) (.slice A1 n1 C1) (.slice A2 n2 C2)) (by simp [results, Tryz.results66, go_sem, inV, e0, e1, e2, e3, e4, e5]) rfl ?_
        rw [tells_ok]
        exact ⟨_, rfl, ins_set6 HI9.out hlt9 (Nat.le_refl _), HR9.out.set6 (by omega) (by omega), HK9.out.set6 (Nat.le_refl _)⟩
    have e0 : instR L = .no 0 4 := by
      unfold instR
      rw [i0, i1, i2, i3]
      rw [if_neg (by simp; exact fun a => q0 (t0.2 a)), if_neg (by simp; exact fun a => q1 (t1.2 a)), if_neg (by simp; exact fun a => q2 (t2.2 a)), if_neg (by simp; exact fun a => q3 (t3.2 a))]
    rw [e0, tells_no]
    unfold Dies
    rw [hF4]
    have p0 := ba_ne q0
    have p1 := ba_ne q1
    have p2 := ba_ne q2
    have p3 := ba_ne q3
    clear i0 i1 i2 i3 t0 t1 t2 t3 e0 hF4 hx hN hc q0 q1 q2 q3
    go_enter Tryz.func66, Tryz.ntmps66
    go_wp2_with fail
    with_reducible refine (TK _ (h.next (new_below _ _))).mono ?_
    rintro e w1 ⟨rfl, h1, kb⟩
    have hdz := Lib.hid ((h1 hg).next (new_below w1 (.cells #[.int .i64 (x.kind : Nat), .string T, .int .i64 x.n, .int .i64 (x.line : Nat), .int .i64 (x.col : Nat)] 122)))
    have hbz := Lib.hid (((Kb.of (r := r) (new_below w (.cells #[.int .i64 0, .int .i64 0, .slice none 0 0, .slice none 0 0, .int .i64 0, .slice none 0 0] 33))).trans kb).alloc (.cells #[.int .i64 (x.kind : Nat), .string T, .int .i64 x.n, .int .i64 (x.line : Nat), .int .i64 (x.col : Nat)] 122))
    have HW0 := Lib.hid (hW.kb hrw hbz.out)
    have hRb := Lib.hid ((HI0.out.kb kb (by omega)).next (new_below w1 (.cells #[.int .i64 (x.kind : Nat), .string T, .int .i64 x.n, .int .i64 (x.line : Nat), .int .i64 (x.col : Nat)] 122)))
    have xtz := tbox_new w1 (.int .i64 (x.kind : Nat)) (.string T) (.int .i64 x.n) (.int .i64 (x.line : Nat)) (.int .i64 (x.col : Nat)) 122
    clear h1 kb
    go_wp2_with fail
    with_reducible refine (N0 _ HW0.out).mono ?_
    rintro e v0 ⟨rfl, m0⟩
    have hb0 := Lib.hid (hbz.out.trans (Kb.of m0))
    have hd0 := Lib.hid (hdz.out.next m0)
    have HW1 := Lib.hid (HW0.out.next m0)
    have hR0 := Lib.hid (hRb.out.next m0)
    have xt0 := xtz.next m0
    clear m0
    go_wp2_with fail
    with_reducible refine (N1 _ HW1.out).mono ?_
    rintro e v1 ⟨rfl, m1⟩
    have hb1 := Lib.hid (hb0.out.trans (Kb.of m1))
    have hd1 := Lib.hid (hd0.out.next m1)
    have HW2 := Lib.hid (HW1.out.next m1)
    have hR1 := Lib.hid (hR0.out.next m1)
    have xt1 := xt0.next m1
    clear m1
    go_wp2_with fail
    with_reducible refine (N2 _ HW2.out).mono ?_
    rintro e v2 ⟨rfl, m2⟩
    have hb2 := Lib.hid (hb1.out.trans (Kb.of m2))
    have hd2 := Lib.hid (hd1.out.next m2)
    have HW3 := Lib.hid (HW2.out.next m2)
    have hR2 := Lib.hid (hR1.out.next m2)
    have xt2 := xt1.next m2
    clear m2
    go_wp2_with fail
    with_reducible refine (N3 _ HW3.out).mono ?_
    rintro e v3 ⟨rfl, m3⟩
    have hb3 := Lib.hid (hb2.out.trans (Kb.of m3))
    have hd3 := Lib.hid (hd2.out.next m3)
    have HW4 := Lib.hid (HW3.out.next m3)
    have hR3 := Lib.hid (hR2.out.next m3)
    have xt3 := xt2.next m3
    clear m3
    obtain ⟨x0, x1, x2, x3, x4, _, _, _, _, _, _⟩ := xt3
    go_wp2
    exact ⟨rfl, rfl, hb3.out⟩
  · have TK := fun W hW => take_noI r g C L 0 0 0 rfl W hW x hx hc
    have e0 : instR L = .no 0 4 := by
      unfold instR
      rw [isW_kind hx hc, isW_kind hx hc, isW_kind hx hc, isW_kind hx hc]
      rfl
    rw [e0, tells_no]
    unfold Dies at *
    go_enter Tryz.func66, Tryz.ntmps66
    go_wp2_with fail
    with_reducible refine (TK _ (h.next (new_below _ _))).mono ?_
    rintro e w1 ⟨rfl, kb⟩
    go_wp2
    exact ⟨rfl, rfl, (Kb.of (new_below w _)).trans kb⟩
end Go.Proofs.YtbadingdklenhaaGreatDoor
