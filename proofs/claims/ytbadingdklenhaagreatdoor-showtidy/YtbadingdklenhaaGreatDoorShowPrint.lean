/-
  What Print does with every instance (layer 11).
-/
import Derived.Test.YtbadingdklenhaaGreatDoorShowCover
import Derived.Test.YtbadingdklenhaaGreatDoorInstCheck
namespace Go.Proofs.YtbadingdklenhaaGreatDoor
set_option maxRecDepth 100000
open Go.RowKit

theorem page_any (b : Nat) (I : In) (vi vc vs : Value) (uc us : List Value) (w0 w : World) (hP : Pg b [] w0 w) (hE : Env b I vi vc vs uc us w0) :
    Calls Tryz.prog 22 #[.pointer (some ⟨b, 0, none⟩), inV I vi vc vs] w fun e w' => e = .returned (.tuple #[]) ∧ ∃ t, Pg b t w0 w' ∧ (t = instT I ∨ (1048576 < t.length ∧ 1048576 < (instT I).length)) := by
  obtain ⟨A0, C0, rfl, _, _⟩ := hE.items.form
  obtain ⟨A1, C1, rfl, _, _⟩ := hE.cost.form
  obtain ⟨A2, C2, rfl, _, _⟩ := hE.sets.form
  have nb := new_below w (.cells #[.int .i64 I.kind, .int .i64 I.cap, .slice A0 I.items.length C0, .slice A1 I.cost.length C1, .int .i64 I.size, .slice A2 I.sets.length C2] 33)
  have hP1 := hP.next nb
  have hk := hE.may.kind
  have KN := fun h => knapsack_page b I _ _ _ uc us w0 _ h hP1 hE
  have SQ := fun h => square_page b I _ _ _ uc us w0 _ h hP1 hE
  have CV := fun h => cover_page b I _ _ _ uc us w0 _ h hP1 hE
  unfold inV at *
  clear hE hP nb hP1
  have hk4 : I.kind = 0 ∨ I.kind = 1 ∨ I.kind = 2 ∨ I.kind = 3 := by omega
  rcases hk4 with h | h | h | h
  · have KN := KN h
    clear SQ CV
    rw [h] at *
    go_enter Tryz.func22, Tryz.ntmps22
    go_wp2_with fail
    with_reducible refine KN.mono ?_
    rintro e w1 ⟨rfl, p1⟩
    have H := Lib.hid p1
    clear KN p1
    go_wp2
    go_end0
    exact ⟨rfl, _, H.out, .inl rfl⟩
  · have SQ := SQ (.inl h)
    clear KN CV
    rw [h] at *
    go_enter Tryz.func22, Tryz.ntmps22
    go_wp2_with fail
    with_reducible refine SQ.mono ?_
    rintro e w1 ⟨rfl, p1⟩
    have H := Lib.hid p1
    clear SQ p1
    go_wp2
    go_end0
    exact ⟨rfl, _, H.out, .inl rfl⟩
  · have SQ := SQ (.inr h)
    clear KN CV
    rw [h] at *
    go_enter Tryz.func22, Tryz.ntmps22
    go_wp2_with fail
    with_reducible refine SQ.mono ?_
    rintro e w1 ⟨rfl, p1⟩
    have H := Lib.hid p1
    clear SQ p1
    go_wp2
    go_end0
    exact ⟨rfl, _, H.out, .inl rfl⟩
  · have CV := CV h
    clear KN SQ
    rw [h] at *
    go_enter Tryz.func22, Tryz.ntmps22
    go_wp2_with fail
    with_reducible refine CV.mono ?_
    rintro e w1 ⟨rfl, p1⟩
    have H := Lib.hid p1
    clear CV p1
    go_wp2
    go_end0
    exact ⟨rfl, H.out⟩

theorem Lies.ltP {F : Nat → Prop} {w : World} {u : Value} {n : Nat} {cs : List Value} (h : Lies F w u n cs) : Lies (fun q => q < w.heap.size) w u n cs := by
  obtain ⟨A, C, h1, h2, h3, h4⟩ := h
  refine ⟨A, C, h1, h2, h3, fun h0 => ?_⟩
  obtain ⟨b, off, h5, h6, h7, h8⟩ := h4 h0
  exact ⟨b, off, h5, h7, h7, h8⟩
theorem instT_ne (I : In) : instT I ≠ [] := by
  unfold instT
  repeat' split
  all_goals simp [kW, cW, aW, tW]
theorem page_new (w : World) : Pg w.heap.size [] (w.alloc (.cells #[.pointer none, .slice none 0 0] 79)) (w.alloc (.cells #[.pointer none, .slice none 0 0] 79)) :=
  Pg.refl (Lib.IsBuilderF.of (Lib.fresh_isBuilder 79 5 w))

set_option maxHeartbeats 2000000 in
theorem print_any (F G : Nat → Prop) (I : In) (v : Value) (w : World) (h : Ins F G w v I) (hW : WordsOk w) (hT : TabOk w) :
    Calls Tryz.prog 9 #[v] w fun e w' => e = .returned (.tuple #[.string ⟨(prT I).toArray⟩, .int .i64 (prE I)]) ∧ Below w.heap.size w w' := by
  have CK := fun v W a b => check_any F G I v W a b
  obtain ⟨vi, vc, vs, uc, us, rfl, hi, hc, hs⟩ := h.form
  obtain ⟨A0, C0, rfl, _, _⟩ := hi.form
  obtain ⟨A1, C1, rfl, _, _⟩ := hc.form
  obtain ⟨A2, C2, rfl, _, _⟩ := hs.form
  obtain ⟨W1, hW1⟩ : ∃ W, W = w.alloc (.cells #[.int .i64 I.kind, .int .i64 I.cap, .slice A0 I.items.length C0, .slice A1 I.cost.length C1, .int .i64 I.size, .slice A2 I.sets.length C2] 33) := ⟨_, rfl⟩
  have nb := new_below w (.cells #[.int .i64 I.kind, .int .i64 I.cap, .slice A0 I.items.length C0, .slice A1 I.cost.length C1, .int .i64 I.size, .slice A2 I.sets.length C2] 33)
  have hn := heap_alloc_new w (.cells #[.int .i64 I.kind, .int .i64 I.cap, .slice A0 I.items.length C0, .slice A1 I.cost.length C1, .int .i64 I.size, .slice A2 I.sets.length C2] 33)
  rw [← hW1] at nb hn
  have HB := Lib.hid nb
  have HN := Lib.hid hn
  have CK1 := CK _ W1 (h.next nb) (hW.next nb)
  have HW := Lib.hid (hW.next nb)
  have HT := Lib.hid (hT.next nb)
  have HI := Lib.hid (hi.next nb)
  have HC := Lib.hid (hc.next nb)
  have HS := Lib.hid (hs.next nb)
  clear hi hc hs h hW hT nb hn CK
  by_cases hk : I.chk = 0
  · have hm := In.chk_may hk
    rw [hk] at CK1
    go_enter Tryz.func9, Tryz.ntmps9
    go_wp2_with fail
    rw [← hW1]
    clear hW1
    with_reducible refine CK1.mono ?_
    rintro e w2 ⟨rfl, b2⟩
    have hb2 := HB.out.trans (b2.mono HB.out.size)
    have nb3 := new_below w2 (.cells #[.pointer none, .slice none 0 0] 79)
    have P3 := page_new w2
    obtain ⟨W3, hW3⟩ : ∃ W, W = w2.alloc (.cells #[.pointer none, .slice none 0 0] 79) := ⟨_, rfl⟩
    rw [← hW3] at nb3 P3
    have b13 : Below W1.heap.size W1 W3 := b2.trans (nb3.mono b2.size)
    have hN2 : w2.heap[w.heap.size]? = _ := (b2.block w.heap.size (lt_of_block HN.out)).trans HN.out
    have x0 : w2.cell? ⟨w.heap.size, 0, none⟩ = some (.int .i64 I.kind) := by unfold World.cell?; simp only [hN2]; rfl
    have x1 : w2.cell? ⟨w.heap.size, 1, none⟩ = some (.int .i64 I.cap) := by unfold World.cell?; simp only [hN2]; rfl
    have x2 : w2.cell? ⟨w.heap.size, 2, none⟩ = some (.slice A0 I.items.length C0) := by unfold World.cell?; simp only [hN2]; rfl
    have x3 : w2.cell? ⟨w.heap.size, 3, none⟩ = some (.slice A1 I.cost.length C1) := by unfold World.cell?; simp only [hN2]; rfl
    have x4 : w2.cell? ⟨w.heap.size, 4, none⟩ = some (.int .i64 I.size) := by unfold World.cell?; simp only [hN2]; rfl
    have x5 : w2.cell? ⟨w.heap.size, 5, none⟩ = some (.slice A2 I.sets.length C2) := by unfold World.cell?; simp only [hN2]; rfl
    have h12 := b2.size
    have hE : Env w2.heap.size I (.slice A0 I.items.length C0) (.slice A1 I.cost.length C1) (.slice A2 I.sets.length C2) uc us W3 :=
      ⟨HT.out.next b13, HW.out.next b13, Nat.lt_of_lt_of_le HT.out.lt h12, Nat.lt_of_lt_of_le HW.out.lt h12,
        Lies.imp (Lies.held (Lies.ltP HI.out) (Below.held b13 _)) (fun q hq => Nat.lt_of_lt_of_le hq h12),
        ⟨HC.out.len, Lies.imp (Lies.held (Lies.ltP HC.out.lies) (Below.held b13 _)) (fun q hq => Nat.lt_of_lt_of_le hq h12), fun i r v a b => Lies.imp (Lies.held (Lies.ltP (HC.out.rows i r v a b)) (Below.held b13 _)) (fun q hq => Nat.lt_of_lt_of_le hq h12)⟩,
        ⟨HS.out.len, Lies.imp (Lies.held (Lies.ltP HS.out.lies) (Below.held b13 _)) (fun q hq => Nat.lt_of_lt_of_le hq h12), fun i r v a b => Lies.imp (Lies.held (Lies.ltP (HS.out.rows i r v a b)) (Below.held b13 _)) (fun q hq => Nat.lt_of_lt_of_le hq h12)⟩, hm⟩
    have PA := page_any w2.heap.size I _ _ _ uc us W3 W3 P3 hE
    unfold inV at PA
    have hw2 : w.heap.size < w2.heap.size := lt_of_block hN2
    have HB3 := Lib.hid (hb2.trans (nb3.mono hb2.size))
    have hww := hb2.size
    clear CK1 b2 hb2 nb3 P3 b13 hN2 hE HI HC HS HW HT HN HB
    go_wp2_with fail
    rw [← hW3]
    with_reducible refine PA.mono ?_
    rintro e w4 ⟨rfl, t, p4, ht⟩
    have IO := isOver_any _ t W3 w4 p4
    have HB4 := Lib.hid (HB3.out.trans (p4.be.mono hww))
    clear x0 x1 x2 x3 x4 x5 PA HB3 hW3
    by_cases hov : 1048576 < t.length
    · have he : prE I = 7 := by
        unfold prE
        rw [if_pos hk, if_neg]
        rcases ht with rfl | ⟨_, h⟩
        · omega
        · omega
      have htx : prT I = [] := by unfold prT; rw [he, if_neg (by omega)]
      rw [decide_eq_true hov] at IO
      have HE := Lib.hid (And.intro he htx)
      clear p4 ht he htx
      go_wp2_with fail
      with_reducible refine IO.mono ?_
      rintro e w5 ⟨rfl, hw5⟩
      obtain rfl := hw5.symm
      clear IO
      go_wp2
      go_ret2
      exact ⟨by rw [HE.out.1, HE.out.2]; rfl, HB4.out⟩
    · have htt : t = instT I := by
        rcases ht with h | ⟨h, _⟩
        · exact h
        · exact absurd h hov
      subst htt
      have he : prE I = 0 := by
        unfold prE
        rw [if_pos hk, if_pos (by omega)]
      have htx : prT I = instT I := by unfold prT; rw [he, if_pos rfl]
      rw [decide_eq_false hov] at IO
      have HE := Lib.hid (And.intro he htx)
      have ST := string_any _ _ _ w4 p4.page (instT_ne I)
      clear p4 ht he htx
      go_wp2_with fail
      with_reducible refine IO.mono ?_
      rintro e w5 ⟨rfl, hw5⟩
      obtain rfl := hw5.symm
      clear IO
      go_wp2_with fail
      with_reducible refine ST.mono ?_
      rintro e w6 ⟨rfl, b6⟩
      have HB6 := Lib.hid (HB4.out.trans (b6.mono hww))
      clear ST b6
      go_wp2
      go_ret2
      exact ⟨by rw [HE.out.1, HE.out.2]; rfl, HB6.out⟩
  · have he : prE I = I.chk := by unfold prE; rw [if_neg hk]
    have htx : prT I = [] := by unfold prT; rw [he, if_neg hk]
    rw [he, htx]
    clear HI HC HS HW HT HN he htx
    go_enter Tryz.func9, Tryz.ntmps9
    go_wp2_with fail
    rw [← hW1]
    clear hW1
    with_reducible refine CK1.mono ?_
    rintro e w2 ⟨rfl, b2⟩
    have HB2 := Lib.hid (HB.out.trans (b2.mono HB.out.size))
    clear CK1 b2 HB
    go_wp2
    go_ret2
    exact ⟨rfl, HB2.out⟩
end Go.Proofs.YtbadingdklenhaaGreatDoor
