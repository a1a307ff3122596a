/-
  What the laws' tame makes of a knapsack (layer 9).
-/
import Derived.Test.YtbadingdklenhaaGreatDoorTopTm
namespace Go.Proofs.YtbadingdklenhaaGreatDoor
set_option maxRecDepth 100000
open Go.RowKit

/-- The items so far. -/
structure StK (O B : Nat) (cap : Int) (W0 : World) (k : Nat) (va : Value) (its : List (Int × Int)) (wr : World) : Prop where
  mk ::
  box : IBlk O 58 (.int .i64 0) (.int .i64 cap) va (.slice none 0 0) (.int .i64 0) (.slice none 0 0) wr
  own : wr.ownsRow B 64 2 va k (fl2 its)
  len : its.length = k
  amts : its.all (fun p => amt p.1 && amt p.2) = true
  be : Keeps O O B W0 wr

/-- What holds at every stage of the round's region: e: which operations have come up; t: the slots. -/
structure A1 (O B : Nat) (cap : Int) (W0 : World) (k : Nat) (va : Value) (its : List (Int × Int)) (yb : Nat) (p : Int × Int) (e : Nat → Bool) (t : Nat → Value) (wr : World) : Prop where
  mk ::
  be : Keeps O O B W0 wr
  sz : B ≤ wr.heap.size
  box : IBlk O 58 (.int .i64 0) (.int .i64 cap) (if e 16 = true then t 126 else va) (.slice none 0 0) (.int .i64 0) (.slice none 0 0) wr
  own : e 14 = false → wr.ownsRow B 64 2 va k (fl2 its)
  new : e 14 = true → ∃ g c, t 126 = .slice (some ⟨g, 0, none⟩) (k + 1) c ∧ wr.ownsRow B 64 2 (.slice (some ⟨g, 0, none⟩) (k + 1) c) (k + 1) (fl2 its ++ [.int .i64 (max 0 (cl p.1)), .int .i64 (max 0 (cl p.2))])
  lit : e 13 = true → e 14 = false → ∃ g, t 125 = .slice (some ⟨g, 0, none⟩) 1 1 ∧ wr.heap[g]? = some (.cells #[.int .i64 (max 0 (cl p.1)), .int .i64 (max 0 (cl p.2))] 64 (0, 0))
  y : wr.heap[yb]? = some (.cells #[.int .i64 p.1, .int .i64 p.2] 64 (0, 0))
  z1 : e 16 = true → e 14 = true
  z2 : e 14 = true → e 1 = true ∧ e 13 = true
  ya : (∀ q, va.ownBlock = some q → q ≠ yb) ∧ O ≠ yb ∧ O < B
namespace A1
variable {O B : Nat} {cap : Int} {W0 : World} {k : Nat} {va : Value} {its : List (Int × Int)} {yb : Nat} {p : Int × Int} {e e' : Nat → Bool} {t t' : Nat → Value} {wr w' : World}
theorem of (h : A1 O B cap W0 k va its yb p e t wr) (h1 : e' 16 = e 16) (h2 : e' 14 = e 14) (h3 : e' 13 = e 13) (h4 : e 1 = true → e' 1 = true) (t1 : t' 126 = t 126) (t2 : t' 125 = t 125) : A1 O B cap W0 k va its yb p e' t' wr := by
  obtain ⟨be, sz, box, own, new, lit, y, z1, z2, ya⟩ := h
  refine ⟨be, sz, ?_, ?_, ?_, ?_, y, ?_, ?_, ya⟩
  · rw [h1, t1]; exact box
  · rw [h2]; exact own
  · rw [h2, t1]; exact new
  · rw [h2, h3, t2]; exact lit
  · rw [h1, h2]; exact z1
  · rw [h2, h3]; exact fun q => ⟨h4 (z2 q).1, (z2 q).2⟩
theorem not14 (h : A1 O B cap W0 k va its yb p e t wr) (hn : e 1 = false ∨ e 13 = false) : e 14 = false := by
  cases hh : e 14 with
  | false => rfl
  | true =>
    obtain ⟨a, b⟩ := h.z2 hh
    rcases hn with q | q <;> simp_all
theorem not16 (h : A1 O B cap W0 k va its yb p e t wr) (hn : e 14 = false) : e 16 = false := by
  cases hh : e 16 with
  | false => rfl
  | true => rw [h.z1 hh] at hn; cases hn
theorem load (h : A1 O B cap W0 k va its yb p e t wr) (hn : e 1 = false) : wr.cell? ⟨O, 2, none⟩ = some va := by
  have hb := h.box
  rw [h.not16 (h.not14 (.inl hn)), if_neg (by decide)] at hb
  exact hb.box.c2
theorem ys (h : A1 O B cap W0 k va its yb p e t wr) : wr.cell? ⟨yb, 0, none⟩ = some (.int .i64 p.1) ∧ wr.cell? ⟨yb, 1, none⟩ = some (.int .i64 p.2) := by
  have hy := h.y
  constructor <;> (unfold World.cell?; simp only [hy]; rfl)
theorem made (h : A1 O B cap W0 k va its yb p e t wr) (hn : e 13 = false) : A1 O B cap W0 k va its yb p (upd e 13 true) (upd t 125 (.slice (some ⟨wr.heap.size, 0, none⟩) 1 1)) (wr.alloc (.cells #[.int .i64 (max 0 (cl p.1)), .int .i64 (max 0 (cl p.2))] 64)) := by
  have nb := new_below wr (.cells #[.int .i64 (max 0 (cl p.1)), .int .i64 (max 0 (cl p.2))] 64)
  have n14 := h.not14 (.inr hn)
  have n16 := h.not16 n14
  obtain ⟨be, sz, box, own, new, lit, y, z1, z2, ya⟩ := h
  have u14 : upd e 13 true 14 = false := n14
  have u16 : upd e 13 true 16 = false := n16
  rw [n16] at box
  refine ⟨be.next sz nb, Nat.le_trans sz nb.size, ?_, fun _ => own_next (own n14) nb, fun q => ?_, fun _ _ => ?_, (nb.block _ (lt_of_block y)).trans y, fun q => ?_, fun q => ?_, ya⟩
  · rw [u16]; exact box.next nb
  · rw [u14] at q; cases q
  · exact ⟨wr.heap.size, rfl, heap_alloc_new _ _⟩
  · rw [u16] at q; cases q
  · rw [u14] at q; cases q
theorem app (h : A1 O B cap W0 k va its yb p e t wr) (hn : e 14 = false) (d1 : e 1 = true) (d13 : e 13 = true) {g c : Nat}
    (ho : w'.ownsRow B 64 2 (.slice (some ⟨g, 0, none⟩) (k + 1) c) (k + 1) (fl2 its ++ [.int .i64 (max 0 (cl p.1)), .int .i64 (max 0 (cl p.2))])) (hg : wr.grownBy w' va.ownBlock) :
    A1 O B cap W0 k va its yb p (upd e 14 true) (upd t 126 (.slice (some ⟨g, 0, none⟩) (k + 1) c)) w' := by
  have n16 := h.not16 hn
  obtain ⟨be, sz, box, own, new, lit, y, z1, z2, ya⟩ := h
  have hlt := (own hn).lt
  have u14 : upd e 14 true 14 = true := rfl
  have u16 : upd e 14 true 16 = false := n16
  rw [n16] at box
  refine ⟨be.grown sz hg (fun q hq => (hlt q hq).1), Nat.le_trans sz hg.size, ?_, fun q => ?_, fun _ => ⟨g, c, rfl, ho⟩, fun _ q => ?_, (hg.block yb (lt_of_block y) (fun q => ya.1 yb q.symm rfl)).trans y, fun _ => u14, fun _ => ⟨d1, d13⟩, ya⟩
  · rw [u16]
    exact box.keep (hg.block O box.lt (fun q => by have := (hlt O q.symm).1; have := ya.2.2; omega))
  · rw [u14] at q; cases q
  · rw [u14] at q; cases q
theorem st (h : A1 O B cap W0 k va its yb p e t wr) (d14 : e 14 = true) (n16 : e 16 = false) : A1 O B cap W0 k va its yb p (upd e 16 true) t (wr.setCell ⟨O, 2, none⟩ (t 126)) := by
  obtain ⟨be, sz, box, own, new, lit, y, z1, z2, ya⟩ := h
  rw [n16] at box
  have u14 : upd e 16 true 14 = true := d14
  refine ⟨be.store (.inl rfl) _, by simpa [World.setCell] using sz, ?_, fun q => ?_, fun _ => ?_, fun _ q => ?_, (Below.heap_setCell wr ⟨O, 2, none⟩ (t 126) yb (fun q => ya.2.1 q.symm)).trans y, fun _ => u14, fun _ => z2 d14, ya⟩
  · show IBlk O _ _ _ (t 126) _ _ _ _
    exact box.set2 _
  · rw [u14] at q; cases q
  · obtain ⟨g, c, e1, e2⟩ := new d14
    exact ⟨g, c, e1, ownsRow_setCell_below (a := ⟨O, 2, none⟩) e2 ya.2.2 _⟩
  · rw [u14] at q; cases q
theorem start (hb : IBlk O 58 (.int .i64 0) (.int .i64 cap) va (.slice none 0 0) (.int .i64 0) (.slice none 0 0) wr) (ho : wr.ownsRow B 64 2 va k (fl2 its)) (hy : wr.heap[yb]? = some (.cells #[.int .i64 p.1, .int .i64 p.2] 64 (0, 0))) (hk : Keeps O O B W0 wr) (hs : B ≤ wr.heap.size) (hya : (∀ q, va.ownBlock = some q → q ≠ yb) ∧ O ≠ yb ∧ O < B) (t : Nat → Value) : A1 O B cap W0 k va its yb p (fun _ => false) t wr :=
  ⟨hk, hs, hb, fun _ => ho, (fun q => by cases q), (fun q => by cases q), hy, (fun q => by cases q), (fun q => by cases q), hya⟩
end A1
def planTK (H yb : Nat) (p : Int × Int) (va : Value) : Plan := { ks := [0, 0, 0, 0, 0, 0, 0, 0, 0, 0, 0, 0, 0, 2, 2, 0, 2], ds := [112, 113, 114, 115, 116, 117, 118, 119, 120, 121, 122, 123, 124, 125, 126, 127, 0], vs := [.pointer (some ⟨H + 1 + 1, 2, none⟩), va, .func (.func 40) #[] #[], .pointer (some ⟨yb, 0, none⟩), .int .i64 p.1, .int .i64 (cl p.1), .int .i64 (max 0 (cl p.1)), .func (.func 40) #[] #[], .pointer (some ⟨yb, 1, none⟩), .int .i64 p.2, .int .i64 (cl p.2), .int .i64 (max 0 (cl p.2)), .agg #[.int .i64 (max 0 (cl p.1)), .int .i64 (max 0 (cl p.2))], undef, undef, .pointer (some ⟨H + 1 + 1, 2, none⟩), undef], ss := [0, 0, 0, 0, 0, 0, 0, 0, 0, 0, 0, 0, 0, 0, 0, 0, 0], zs := [#[], #[], #[], #[], #[], #[], #[], #[], #[], #[], #[], #[], #[], #[], #[], #[], #[]], fs := [#[], #[], #[], #[], #[], #[], #[], #[], #[], #[], #[], #[], #[], #[], #[], #[], #[]], ts := [0, 0, 0, 0, 0, 0, 0, 0, 0, 0, 0, 0, 0, 0, 0, 0, 0] }

set_option maxHeartbeats 2000000 in
theorem tameK_any (I : In) (v : Value) (w : World) (h : Ins (fun _ => True) (fun _ => True) w v I) (hk : (I.kind.tmod 4 + 4).tmod 4 = 0) : Calls Tryz.prog 17 #[v, .int .i64 8] w (IsTame w) := by
  unfold IsTame
  obtain ⟨vi, vc, vs, uc, us, rfl, hi, hc, hs⟩ := h.form
  obtain ⟨A0, C0, rfl, k0, m0⟩ := hi.form
  obtain ⟨A, C, rfl, k1, m1⟩ := hc.form
  obtain ⟨A2, C2, rfl, k2, m2⟩ := hs.form
  unfold maxLen at m0 m1 m2
  obtain ⟨jj1, jj2, jj3, jj4, jj5⟩ := info_pair
  have wk := kind_wrap I.kind
  obtain ⟨K, hK⟩ : ∃ K, wrap64 (I.kind.tmod 4 + 4) = K := ⟨_, rfl⟩
  have hK0 : K.tmod 4 = 0 := by rw [← hK, wk]; exact hk
  have CL := clamp_any
  have HI := Lib.hid hi
  obtain ⟨L, eL⟩ : ∃ L, min I.items.length 8 = L := ⟨_, rfl⟩
  have hL : (min (I.items.length : Int) 8).toNat = L := by omega
  have hL1 : L ≤ I.items.length := by omega
  have hL2 : L ≤ 8 := by omega
  have hL3 : (0 : Int) ≤ min (I.items.length : Int) 8 := by omega
  have hL4 : min (I.items.length : Int) 8 ≤ (C0 : Int) := by omega
  obtain ⟨cap, ecap⟩ : ∃ c, max 0 (cl I.cap) = c := ⟨_, rfl⟩
  have hcap : amt cap = true := by rw [← ecap]; exact amt_cl _
  obtain ⟨W0, hW0⟩ : ∃ q, q = (((w.alloc (.cells #[.int .i64 I.kind, .int .i64 I.cap, .slice A0 I.items.length C0, .slice A I.cost.length C, .int .i64 I.size, .slice A2 I.sets.length C2] 58)).alloc (.cells #[.int .i64 0, .int .i64 0, .slice none 0 0, .slice none 0 0, .int .i64 0, .slice none 0 0] 58)).alloc (.cells #[.int .i64 0, .int .i64 cap, .slice none 0 0, .slice none 0 0, .int .i64 0, .slice none 0 0] 58)) := ⟨_, rfl⟩
  have hsz : W0.heap.size = w.heap.size + 1 + 1 + 1 := by rw [hW0]; simp
  have HBw : Hid (Below w.heap.size w W0) := by
    rw [hW0]
    exact ((new_below w _).alloc (by simp) _).alloc (by simp; omega) _
  have hX : IBlk w.heap.size 58 (.int .i64 I.kind) (.int .i64 I.cap) (.slice A0 I.items.length C0) (.slice A I.cost.length C) (.int .i64 I.size) (.slice A2 I.sets.length C2) W0 := by
    rw [hW0]
    exact ((iblk_new w _ _ _ _ _ _ _).next (new_below _ _)).next (new_below _ _)
  have hR : IBlk (w.heap.size + 1) 58 (.int .i64 0) (.int .i64 0) (.slice none 0 0) (.slice none 0 0) (.int .i64 0) (.slice none 0 0) W0 := by
    rw [hW0]
    have h0 := iblk_new (w.alloc (.cells #[.int .i64 I.kind, .int .i64 I.cap, .slice A0 I.items.length C0, .slice A I.cost.length C, .int .i64 I.size, .slice A2 I.sets.length C2] 58)) (.int .i64 0) (.int .i64 0) (.slice none 0 0) (.slice none 0 0) (.int .i64 0) (.slice none 0 0) 58
    rw [World.size_alloc] at h0
    exact h0.next (new_below _ _)
  have hO : IBlk (w.heap.size + 1 + 1) 58 (.int .i64 0) (.int .i64 cap) (.slice none 0 0) (.slice none 0 0) (.int .i64 0) (.slice none 0 0) W0 := by
    rw [hW0]
    have h0 := iblk_new ((w.alloc (.cells #[.int .i64 I.kind, .int .i64 I.cap, .slice A0 I.items.length C0, .slice A I.cost.length C, .int .i64 I.size, .slice A2 I.sets.length C2] 58)).alloc (.cells #[.int .i64 0, .int .i64 0, .slice none 0 0, .slice none 0 0, .int .i64 0, .slice none 0 0] 58)) (.int .i64 0) (.int .i64 cap) (.slice none 0 0) (.slice none 0 0) (.int .i64 0) (.slice none 0 0) 58
    rw [World.size_alloc, World.size_alloc] at h0
    exact h0
  have HX := Lib.hid hX
  have HR := Lib.hid hR
  have HO := Lib.hid hO
  clear h hi hc hs hX hR hO wk hk
  go_enter Tryz.func17, Tryz.ntmps17
  go_wp2_with fail
  with_reducible refine (CL _ _).mono ?_
  rintro e w1 ⟨rfl, rfl⟩
  go_wp2
  rw [← hW0]
  have HSZ := Lib.hid hsz
  clear hW0 hsz hL hL3 hL4
  go_loopw [108, 8] (fun i _ wr => ∃ (k : Nat) (va : Value) (its : List (Int × Int)), k ≤ L ∧ i = .int .i64 (k : Nat) ∧ Hid (StK (w.heap.size + 1 + 1) (w.heap.size + 1 + 1 + 1) cap W0 k va its wr)) (fun i _ _ => L - (intOf i).toNat)
  case atStart => exact ⟨0, .slice none 0 0, [], by omega, rfl, ⟨HO.out, World.ownsRow_nil _ _ _ _, rfl, rfl, Keeps.refl _ _ _ _⟩⟩
  case round =>
    obtain ⟨k, va, its, hk, rfl, hS⟩ := hrel
    have hBr := Lib.hid (hS.out.be.below (M := w.heap.size + 1 + 1) (by omega) (by omega) (by omega))
    obtain ⟨x0, x1, x2, x3, x4, x5⟩ := (HX.out.below hBr.out (by omega)).box
    have hbs : w.heap.size + 1 + 1 + 1 ≤ wr.heap.size := by have := HSZ.out; have := hS.out.be.size; omega
    by_cases hlt : k < L
    · obtain ⟨b, off, p, rfl, _, hb, hp, c0, c1⟩ := (HI.out.next (HBw.out.trans (hBr.out.mono (by omega)))).get (i := k) (by omega)
      have hbl : b < wr.heap.size := cell_lt c0
      have c01 : (0 : Int) ≤ (k : Int) := by omega
      have c02 : (k : Int) < (L : Int) := by omega
      clear hp
      have NB := new_below wr (.cells #[.int .i64 p.1, .int .i64 p.2] 64)
      have HY : Hid (∀ t, A1 (w.heap.size + 1 + 1) (w.heap.size + 1 + 1 + 1) cap W0 k va its wr.heap.size p (fun _ => false) t (wr.alloc (.cells #[.int .i64 p.1, .int .i64 p.2] 64)).drew) := fun t =>
        A1.start (hS.out.box.next NB.drew) (own_next hS.out.own NB.drew) (heap_alloc_new _ _) (hS.out.be.next hbs NB.drew) (Nat.le_trans hbs NB.size) ⟨fun q hq => by have := (hS.out.own.lt q hq).2; omega, by omega, by omega⟩ t
      have HLN := Lib.hid hS.out.len
      have HAM := Lib.hid hS.out.amts
      clear hS NB
      go_wp2
      obtain ⟨yb, hyb⟩ : ∃ q, q = wr.heap.size := ⟨_, rfl⟩
      rw [← hyb] at HY ⊢
      clear hyb c0 c1 x0 x1 x2 x3 x4 x5 hbs hbl
      have ok : (planTK w.heap.size yb p va).ok = true := rfl
      refine region_inv (Inv := fun lq_ aq_ wr => ∃ (e : Nat → Bool) (t : Nat → Value), lq_ = #[e 0, e 1, e 2, e 3, e 4, e 5, e 6, e 7, e 8, e 9, e 10, e 11, e 12, e 13, e 14, e 15, e 16] ∧ aq_ = ⟨#[.agg #[.int .i64 I.kind, .int .i64 I.cap, .slice (some ⟨b, off, none⟩) I.items.length C0, .slice A I.cost.length C, .int .i64 I.size, .slice A2 I.sets.length C2], .int .i64 8, .pointer (some ⟨w.heap.size, 0, none⟩), undef, .pointer (some ⟨w.heap.size + 1, 0, none⟩), .func (.func 40) #[] #[], .pointer (some ⟨w.heap.size + 1 + 1, 0, none⟩), undef, .pointer (some ⟨yb, 0, none⟩), undef, undef, undef, undef, undef, undef, undef, undef, undef, undef, .pointer (some ⟨w.heap.size, 0, none⟩), .int .i64 I.kind, .int .i64 (I.kind.tmod 4), .int .i64 K, .int .i64 0, .agg #[.int .i64 0, .int .i64 0, .slice none 0 0, .slice none 0 0, .int .i64 0, .slice none 0 0], .pointer (some ⟨w.heap.size + 1 + 1, 0, none⟩), .int .i64 0, undef, undef, undef, undef, undef, undef, undef, undef, undef, undef, undef, undef, undef, undef, undef, undef, undef, undef, undef, undef, undef, undef, undef, undef, undef, undef, undef, undef, undef, undef, undef, undef, undef, undef, undef, undef, undef, undef, undef, undef, undef, undef, undef, undef, undef, undef, undef, undef, undef, undef, undef, undef, undef, undef, undef, undef, undef, undef, undef, undef, undef, undef, undef, undef, .bool true, .bool true, .func (.func 40) #[] #[], .pointer (some ⟨w.heap.size, 1, none⟩), .int .i64 I.cap, .int .i64 (cl I.cap), .int .i64 cap, .pointer (some ⟨w.heap.size + 1 + 1, 1, none⟩), .pointer (some ⟨w.heap.size, 2, none⟩), .slice (some ⟨b, off, none⟩) I.items.length C0, .pointer (some ⟨w.heap.size, 2, none⟩), .slice (some ⟨b, off, none⟩) I.items.length C0, .int .i64 (I.items.length : Int), .int .i64 8, .int .i64 (min ((I.items.length : Int)) 8), .slice (some ⟨b, off, none⟩) L C0, .int .i64 (L : Int), .int .i64 (k : Int), .bool true, .pointer (some ⟨b, off + k * 2, none⟩), .agg #[.int .i64 p.fst, .int .i64 p.snd], t 112, t 113, t 114, t 115, t 116, t 117, t 118, t 119, t 120, t 121, t 122, t 123, t 124, t 125, t 126, t 127, u128, undef, undef, undef, undef, undef, undef, undef, undef, undef, undef, undef, undef, undef, undef, undef, undef, undef, undef, undef, undef, undef, undef, undef, undef, undef, undef, undef, undef, undef, undef, undef, undef, undef, undef, undef, undef, undef, undef, undef, undef, undef, undef, undef, undef, undef, undef, undef, undef, undef, undef, undef, undef, undef, undef, undef, undef, undef, undef, undef, undef, undef, undef, undef, undef], []⟩ ∧ Vals (planTK w.heap.size yb p va) e t ∧ A1 (w.heap.size + 1 + 1) (w.heap.size + 1 + 1 + 1) cap W0 k va its yb p e t wr) (by kernel_rfl) ?step ?start ?done
      case start => exact ⟨fun _ => false, fun j => if j = 112 then u112 else if j = 113 then u113 else if j = 114 then u114 else if j = 115 then u115 else if j = 116 then u116 else if j = 117 then u117 else if j = 118 then u118 else if j = 119 then u119 else if j = 120 then u120 else if j = 121 then u121 else if j = 122 then u122 else if j = 123 then u123 else if j = 124 then u124 else if j = 125 then u125 else if j = 126 then u126 else if j = 127 then u127 else undef, rfl, rfl, Vals.start _ _, HY.out _⟩
      case step =>
        rintro lq_ aq_ wr ⟨e, t, rfl, rfl, hs, hm⟩ q_ o ho hi ha
        match q_, ho, hi, ha with
        | 0, ho, hi, ha =>
          obtain rfl : _ = o := Option.some.inj ho
          have hi : e 0 = false := hi
          refine wpOp_step (i := 0) rfl (fun K hK => ?_)
          have HK : Shut (∀ a w, _ → K a w) := hK
          clear hK ho
          have HS := Lib.hid hs
          have HM := Lib.hid hm
          have HI := Lib.hid hi
          clear hs ha hm hi
          go_simp
          exact HK.out _ _ ⟨upd e 0 true, upd t 112 _, rfl, rfl, by exact HS.out.put ok (i := 0) rfl, (by exact HM.out.of rfl rfl rfl (fun h_ => by first | exact h_ | rfl) rfl rfl)⟩
        | 1, ho, hi, ha =>
          obtain rfl : _ = o := Option.some.inj ho
          have hi : e 1 = false := hi
          have T0 : t 112 = .pointer (some ⟨w.heap.size + 1 + 1, 2, none⟩) := hs.val 0 rfl (ha { on := 0, ground := .data } (by simp) rfl)
          have H0 := Lib.hid T0
          have xa_ := hm.load hi
          refine wpOp_step (i := 1) rfl (fun K hK => ?_)
          have HK : Shut (∀ a w, _ → K a w) := hK
          clear hK ho
          have HS := Lib.hid hs
          have HM := Lib.hid hm
          have HI := Lib.hid hi
          clear hs ha hm hi
          go_simp
          exact HK.out _ _ ⟨upd e 1 true, upd (upd t 112 _) 113 _, rfl, rfl, by rw [upd_self H0.out]; exact HS.out.put ok (i := 1) rfl, (by exact HM.out.of rfl rfl rfl (fun h_ => by first | exact h_ | rfl) rfl rfl)⟩
        | 2, ho, hi, ha =>
          obtain rfl : _ = o := Option.some.inj ho
          have hi : e 2 = false := hi
          refine wpOp_step (i := 2) rfl (fun K hK => ?_)
          have HK : Shut (∀ a w, _ → K a w) := hK
          clear hK ho
          have HS := Lib.hid hs
          have HM := Lib.hid hm
          have HI := Lib.hid hi
          clear hs ha hm hi
          go_simp
          exact HK.out _ _ ⟨upd e 2 true, upd t 114 _, rfl, rfl, by exact HS.out.put ok (i := 2) rfl, (by exact HM.out.of rfl rfl rfl (fun h_ => by first | exact h_ | rfl) rfl rfl)⟩
        | 3, ho, hi, ha =>
          obtain rfl : _ = o := Option.some.inj ho
          have hi : e 3 = false := hi
          refine wpOp_step (i := 3) rfl (fun K hK => ?_)
          have HK : Shut (∀ a w, _ → K a w) := hK
          clear hK ho
          have HS := Lib.hid hs
          have HM := Lib.hid hm
          have HI := Lib.hid hi
          clear hs ha hm hi
          go_simp
          exact HK.out _ _ ⟨upd e 3 true, upd t 115 _, rfl, rfl, by exact HS.out.put ok (i := 3) rfl, (by exact HM.out.of rfl rfl rfl (fun h_ => by first | exact h_ | rfl) rfl rfl)⟩
        | 4, ho, hi, ha =>
          obtain rfl : _ = o := Option.some.inj ho
          have hi : e 4 = false := hi
          have T3 : t 115 = .pointer (some ⟨yb, 0, none⟩) := hs.val 3 rfl (ha { on := 3, ground := .data } (by simp) rfl)
          have H3 := Lib.hid T3
          obtain ⟨ya_, yb_⟩ := hm.ys
          refine wpOp_step (i := 4) rfl (fun K hK => ?_)
          have HK : Shut (∀ a w, _ → K a w) := hK
          clear hK ho
          have HS := Lib.hid hs
          have HM := Lib.hid hm
          have HI := Lib.hid hi
          clear hs ha hm hi
          go_simp
          exact HK.out _ _ ⟨upd e 4 true, upd (upd t 115 _) 116 _, rfl, rfl, by rw [upd_self H3.out]; exact HS.out.put ok (i := 4) rfl, (by exact HM.out.of rfl rfl rfl (fun h_ => by first | exact h_ | rfl) rfl rfl)⟩
        | 5, ho, hi, ha =>
          obtain rfl : _ = o := Option.some.inj ho
          have hi : e 5 = false := hi
          have T2 : t 114 = .func (.func 40) #[] #[] := hs.val 2 rfl (ha { on := 2, ground := .data } (by simp) rfl)
          have H2 := Lib.hid T2
          have T4 : t 116 = .int .i64 p.1 := hs.val 4 rfl (ha { on := 4, ground := .data } (by simp) rfl)
          have H4 := Lib.hid T4
          refine wpOp_step (i := 5) rfl (fun K hK => ?_)
          have HK : Shut (∀ a w, _ → K a w) := hK
          clear hK ho
          have HS := Lib.hid hs
          have HM := Lib.hid hm
          have HI := Lib.hid hi
          clear hs ha hm hi
          go_simp
          (with_reducible refine (CL _ _).mono ?_)
          rintro e' w' ⟨rfl, rfl⟩
          go_wp2_with fail
          exact HK.out _ _ ⟨upd e 5 true, upd (upd (upd t 114 _) 116 _) 117 _, rfl, rfl, by rw [upd_self H2.out, upd_self H4.out]; exact HS.out.put ok (i := 5) rfl, (by exact HM.out.of rfl rfl rfl (fun h_ => by first | exact h_ | rfl) rfl rfl)⟩
        | 6, ho, hi, ha =>
          obtain rfl : _ = o := Option.some.inj ho
          have hi : e 6 = false := hi
          have T5 : t 117 = .int .i64 (cl p.1) := hs.val 5 rfl (ha { on := 5, ground := .data } (by simp) rfl)
          have H5 := Lib.hid T5
          refine wpOp_step (i := 6) rfl (fun K hK => ?_)
          have HK : Shut (∀ a w, _ → K a w) := hK
          clear hK ho
          have HS := Lib.hid hs
          have HM := Lib.hid hm
          have HI := Lib.hid hi
          clear hs ha hm hi
          go_simp
          exact HK.out _ _ ⟨upd e 6 true, upd (upd t 117 _) 118 _, rfl, rfl, by rw [upd_self H5.out]; exact HS.out.put ok (i := 6) rfl, (by exact HM.out.of rfl rfl rfl (fun h_ => by first | exact h_ | rfl) rfl rfl)⟩
        | 7, ho, hi, ha =>
          obtain rfl : _ = o := Option.some.inj ho
          have hi : e 7 = false := hi
          refine wpOp_step (i := 7) rfl (fun K hK => ?_)
          have HK : Shut (∀ a w, _ → K a w) := hK
          clear hK ho
          have HS := Lib.hid hs
          have HM := Lib.hid hm
          have HI := Lib.hid hi
          clear hs ha hm hi
          go_simp
          exact HK.out _ _ ⟨upd e 7 true, upd t 119 _, rfl, rfl, by exact HS.out.put ok (i := 7) rfl, (by exact HM.out.of rfl rfl rfl (fun h_ => by first | exact h_ | rfl) rfl rfl)⟩
        | 8, ho, hi, ha =>
          obtain rfl : _ = o := Option.some.inj ho
          have hi : e 8 = false := hi
          refine wpOp_step (i := 8) rfl (fun K hK => ?_)
          have HK : Shut (∀ a w, _ → K a w) := hK
          clear hK ho
          have HS := Lib.hid hs
          have HM := Lib.hid hm
          have HI := Lib.hid hi
          clear hs ha hm hi
          go_simp
          exact HK.out _ _ ⟨upd e 8 true, upd t 120 _, rfl, rfl, by exact HS.out.put ok (i := 8) rfl, (by exact HM.out.of rfl rfl rfl (fun h_ => by first | exact h_ | rfl) rfl rfl)⟩
        | 9, ho, hi, ha =>
          obtain rfl : _ = o := Option.some.inj ho
          have hi : e 9 = false := hi
          have T8 : t 120 = .pointer (some ⟨yb, 1, none⟩) := hs.val 8 rfl (ha { on := 8, ground := .data } (by simp) rfl)
          have H8 := Lib.hid T8
          obtain ⟨ya_, yb_⟩ := hm.ys
          refine wpOp_step (i := 9) rfl (fun K hK => ?_)
          have HK : Shut (∀ a w, _ → K a w) := hK
          clear hK ho
          have HS := Lib.hid hs
          have HM := Lib.hid hm
          have HI := Lib.hid hi
          clear hs ha hm hi
          go_simp
          exact HK.out _ _ ⟨upd e 9 true, upd (upd t 120 _) 121 _, rfl, rfl, by rw [upd_self H8.out]; exact HS.out.put ok (i := 9) rfl, (by exact HM.out.of rfl rfl rfl (fun h_ => by first | exact h_ | rfl) rfl rfl)⟩
        | 10, ho, hi, ha =>
          obtain rfl : _ = o := Option.some.inj ho
          have hi : e 10 = false := hi
          have T7 : t 119 = .func (.func 40) #[] #[] := hs.val 7 rfl (ha { on := 7, ground := .data } (by simp) rfl)
          have H7 := Lib.hid T7
          have T9 : t 121 = .int .i64 p.2 := hs.val 9 rfl (ha { on := 9, ground := .data } (by simp) rfl)
          have H9 := Lib.hid T9
          refine wpOp_step (i := 10) rfl (fun K hK => ?_)
          have HK : Shut (∀ a w, _ → K a w) := hK
          clear hK ho
          have HS := Lib.hid hs
          have HM := Lib.hid hm
          have HI := Lib.hid hi
          clear hs ha hm hi
          go_simp
          (with_reducible refine (CL _ _).mono ?_)
          rintro e' w' ⟨rfl, rfl⟩
          go_wp2_with fail
          exact HK.out _ _ ⟨upd e 10 true, upd (upd (upd t 119 _) 121 _) 122 _, rfl, rfl, by rw [upd_self H7.out, upd_self H9.out]; exact HS.out.put ok (i := 10) rfl, (by exact HM.out.of rfl rfl rfl (fun h_ => by first | exact h_ | rfl) rfl rfl)⟩
        | 11, ho, hi, ha =>
          obtain rfl : _ = o := Option.some.inj ho
          have hi : e 11 = false := hi
          have T10 : t 122 = .int .i64 (cl p.2) := hs.val 10 rfl (ha { on := 10, ground := .data } (by simp) rfl)
          have H10 := Lib.hid T10
          refine wpOp_step (i := 11) rfl (fun K hK => ?_)
          have HK : Shut (∀ a w, _ → K a w) := hK
          clear hK ho
          have HS := Lib.hid hs
          have HM := Lib.hid hm
          have HI := Lib.hid hi
          clear hs ha hm hi
          go_simp
          exact HK.out _ _ ⟨upd e 11 true, upd (upd t 122 _) 123 _, rfl, rfl, by rw [upd_self H10.out]; exact HS.out.put ok (i := 11) rfl, (by exact HM.out.of rfl rfl rfl (fun h_ => by first | exact h_ | rfl) rfl rfl)⟩
        | 12, ho, hi, ha =>
          obtain rfl : _ = o := Option.some.inj ho
          have hi : e 12 = false := hi
          have T6 : t 118 = .int .i64 (max 0 (cl p.1)) := hs.val 6 rfl (ha { on := 6, ground := .data } (by simp) rfl)
          have H6 := Lib.hid T6
          have T11 : t 123 = .int .i64 (max 0 (cl p.2)) := hs.val 11 rfl (ha { on := 11, ground := .data } (by simp) rfl)
          have H11 := Lib.hid T11
          refine wpOp_step (i := 12) rfl (fun K hK => ?_)
          have HK : Shut (∀ a w, _ → K a w) := hK
          clear hK ho
          have HS := Lib.hid hs
          have HM := Lib.hid hm
          have HI := Lib.hid hi
          clear hs ha hm hi
          go_simp
          exact HK.out _ _ ⟨upd e 12 true, upd (upd (upd t 118 _) 123 _) 124 _, rfl, rfl, by rw [upd_self H6.out, upd_self H11.out]; exact HS.out.put ok (i := 12) rfl, (by exact HM.out.of rfl rfl rfl (fun h_ => by first | exact h_ | rfl) rfl rfl)⟩
        | 13, ho, hi, ha =>
          obtain rfl : _ = o := Option.some.inj ho
          have hi : e 13 = false := hi
          have T12 : t 124 = .agg #[.int .i64 (max 0 (cl p.1)), .int .i64 (max 0 (cl p.2))] := hs.val 12 rfl (ha { on := 12, ground := .data } (by simp) rfl)
          have H12 := Lib.hid T12
          refine wpOp_step (i := 13) rfl (fun K hK => ?_)
          have HK : Shut (∀ a w, _ → K a w) := hK
          clear hK ho
          have HS := Lib.hid hs
          have HM := Lib.hid hm
          have HI := Lib.hid hi
          clear hs ha hm hi
          go_simp
          exact HK.out _ _ ⟨upd e 13 true, upd (upd t 124 _) 125 _, rfl, rfl, by rw [upd_self H12.out]; exact HS.out.skip' (i := 13) rfl rfl, (by rw [upd_self H12.out]; exact HM.out.made HI.out)⟩
        | 14, ho, hi, ha =>
          obtain rfl : _ = o := Option.some.inj ho
          have hi : e 14 = false := hi
          have d1 : e 1 = true := ha { on := 1, ground := .data } (by simp) rfl
          have d13 : e 13 = true := ha { on := 13, ground := .data } (by simp) rfl
          have TS_ : t 113 = va := hs.val 1 rfl d1
          obtain ⟨g_, TX, hN⟩ := hm.lit d13 hi
          have hO := hm.own hi
          refine wpOp_step (i := 14) rfl (fun K hK => ?_)
          refine step_append_lies wr rfl (.tmp 113) (.tmp 125) 22 rfl (w.heap.size + 1 + 1 + 1) 64 jj1 (.agg #[.int .i64 0, .int .i64 0]) 2 16 Tryz.underlying22 jj2 jj3 jj4 jj5 rfl (by decide) va k (fl2 its) TS_ hO ⟨g_, 0, none⟩ 1 1 [.int .i64 (max 0 (cl p.1)), .int .i64 (max 0 (cl p.2))] TX rfl (World.news_of_block hN) (two_one _ _) (by omega) (by unfold maxLen; omega) (by omega) hm.sz wr.heap.size rfl ?_
          intro g' c' w' hown hgrow hat _
          exact hK _ _ ⟨upd e 14 true, upd t 126 _, rfl, rfl, hs.skip' (i := 14) rfl rfl, hm.app hi d1 d13 hown hgrow⟩
        | 15, ho, hi, ha =>
          obtain rfl : _ = o := Option.some.inj ho
          have hi : e 15 = false := hi
          refine wpOp_step (i := 15) rfl (fun K hK => ?_)
          have HK : Shut (∀ a w, _ → K a w) := hK
          clear hK ho
          have HS := Lib.hid hs
          have HM := Lib.hid hm
          have HI := Lib.hid hi
          clear hs ha hm hi
          go_simp
          exact HK.out _ _ ⟨upd e 15 true, upd t 127 _, rfl, rfl, by exact HS.out.put ok (i := 15) rfl, (by exact HM.out.of rfl rfl rfl (fun h_ => by first | exact h_ | rfl) rfl rfl)⟩
        | 16, ho, hi, ha =>
          obtain rfl : _ = o := Option.some.inj ho
          have hi : e 16 = false := hi
          have T15 : t 127 = .pointer (some ⟨w.heap.size + 1 + 1, 2, none⟩) := hs.val 15 rfl (ha { on := 15, ground := .data } (by simp) rfl)
          have H15 := Lib.hid T15
          have DP : Hid (e 14 = true) := ha { on := 14, ground := .data } (by simp) rfl
          obtain ⟨g_, c_, T126, _⟩ := hm.new DP.out
          have H126 := Lib.hid T126
          have of_ := hm.box.free 2
          have oc_ := hm.box.box.c2
          rw [hi, if_neg (by decide)] at oc_
          refine wpOp_step (i := 16) rfl (fun K hK => ?_)
          have HK : Shut (∀ a w, _ → K a w) := hK
          clear hK ho
          have HS := Lib.hid hs
          have HM := Lib.hid hm
          have HI := Lib.hid hi
          clear hs ha hm hi
          go_simp
          exact HK.out _ _ ⟨upd e 16 true, (upd (upd t 127 _) 126 _), rfl, rfl, by rw [upd_self H15.out, upd_self H126.out]; exact HS.out.skip (i := 16) rfl, (by rw [upd_self H15.out, upd_self H126.out, ← H126.out]; exact HM.out.st DP.out HI.out)⟩
        | k + 17, ho, hi, ha => simp at ho
      case done =>
        rintro lq_ aq_ wr ⟨e, t, rfl, rfl, hs, hm⟩ hr
        have hd := ready_done hr rfl (by decide +kernel)
        have E : Hid (∃ va' its', StK (w.heap.size + 1 + 1) (w.heap.size + 1 + 1 + 1) cap W0 (k + 1) va' its' wr) := by
          obtain ⟨g_, c_, e1, e2⟩ := hm.new (hd 14 (by decide))
          have hb := hm.box
          rw [show e 16 = true from hd 16 (by decide), if_pos rfl, e1] at hb
          exact ⟨_, its ++ [(max 0 (cl p.1), max 0 (cl p.2))], hb, by rw [fl2_append]; exact e2, by rw [List.length_append, HLN.out]; rfl, by rw [List.all_append, HAM.out]; simp [amt_cl], hm.be⟩
        clear hd hr hs ok hm HY
        generalize t 112 = t112, t 113 = t113, t 114 = t114, t 115 = t115, t 116 = t116, t 117 = t117, t 118 = t118, t 119 = t119, t 120 = t120, t 121 = t121, t 122 = t122, t 123 = t123, t 124 = t124, t 125 = t125, t 126 = t126, t 127 = t127 at *
        go_wp2
        go_roundw
        case rel =>
          refine ⟨_, _, _, _, _, _, _, _, _, _, _, _, _, _, _, _, _, _, _, _, _, _, ?_, rfl⟩
          obtain ⟨va', its', hE⟩ := E.out
          exact ⟨k + 1, va', its', by omega, by go_num, hE⟩
        case measure => simp [intOf]; omega
    · obtain rfl : k = L := by omega
      have hS := hS.out
      obtain ⟨o0, o1, o2, o3, o4, o5⟩ := hS.box.box
      have RR := HR.out.below (hS.be.below (M := w.heap.size + 1 + 1) (by omega) (by omega) (by omega)) (by omega)
      obtain ⟨y0, y1, y2, y3, y4, y5⟩ := RR.box
      have fy := fun o => RR.free o
      obtain ⟨qa, ca, ea⟩ : ∃ A C, va = .slice A k C := by
        rcases hS.own.2 with ⟨q1, q2⟩ | ⟨g_, c_, _, q1, _⟩
        · exact ⟨none, 0, by rw [q1, q2]⟩
        · exact ⟨_, _, q1⟩
      have HW := Lib.hid (HBw.out.trans (hBr.out.mono (by omega)))
      have HE : Hid (Ins (fun q => w.heap.size + 1 + 1 + 1 ≤ q) (fun q => w.heap.size + 1 + 1 + 1 ≤ q) wr (.agg #[.int .i64 0, .int .i64 cap, va, .slice none 0 0, .int .i64 0, .slice none 0 0]) (In.mk 0 cap its [] 0 [])) := by
        refine ⟨⟨va, .slice none 0 0, .slice none 0 0, [], [], rfl, ?_, ⟨rfl, Lies.nil _ _ _, fun i r v a _ => by simp at a⟩, ⟨rfl, Lies.nil _ _ _, fun i r v a _ => by simp at a⟩⟩⟩
        show Lies _ _ _ its.length (fl2 its)
        rw [hS.len]
        exact (lies_of_own hS.own).imp fun q hq => (hS.own.lt q hq).1
      have HC := Lib.hid (chk_items hcap (by rw [hS.len]; omega) hS.amts)
      have HLN := Lib.hid hS.len
      clear hS RR hBr x0 x1 x2 x3 x4 x5
      subst ea
      go_wp2
      have lo : (w.heap.size + 1) < w.heap.size + 1 + 1 + 1 := by omega
      have hi : w.heap.size ≤ w.heap.size + 1 := by omega
      refine bodyPost_ret (v := .agg #[.int .i64 0, .int .i64 cap, .slice qa k ca, .slice none 0 0, .int .i64 0, .slice none 0 0]) (by simp [results, Tryz.results17, go_sem, y0, y1, y2, y3, y4, y5]) rfl ?_
      refine ⟨_, _, rfl, (((((((HE.out.low (a := ⟨_, _, _⟩) lo _).low (a := ⟨_, _, _⟩) lo _).low (a := ⟨_, _, _⟩) lo _).low (a := ⟨_, _, _⟩) lo _).low (a := ⟨_, _, _⟩) lo _).low (a := ⟨_, _, _⟩) lo _)).imp (fun _ _ => trivial) (fun _ _ => trivial), ⟨by show its.length ≤ 40; rw [HLN.out]; omega, by show 0 ≤ 70; omega, fun r hr => by simp at hr, by show 0 ≤ 40; omega, fun r hr => by simp at hr⟩, HC.out, ?_⟩
      exact ((((((HW.out.setCell (p := ⟨_, _, _⟩) hi _).setCell (p := ⟨_, _, _⟩) hi _).setCell (p := ⟨_, _, _⟩) hi _).setCell (p := ⟨_, _, _⟩) hi _).setCell (p := ⟨_, _, _⟩) hi _).setCell (p := ⟨_, _, _⟩) hi _)
end Go.Proofs.YtbadingdklenhaaGreatDoor

/-
  What the laws' tame makes of an assignment or a tsp (layer 9).
-/
namespace Go.Proofs.YtbadingdklenhaaGreatDoor
set_option maxRecDepth 100000
open Go.RowKit

/-- The square's rows so far. -/
structure StQ (O B : Nat) (K : Int) (N : Nat) (W0 : World) (k : Nat) (va : Value) (us : List Value) (R : List (List Int)) (wr : World) : Prop where
  mk ::
  box : IBlk O 58 (.int .i64 K) (.int .i64 0) (.slice none 0 0) va (.int .i64 0) (.slice none 0 0) wr
  own : wr.ownsRow B 68 1 va k us
  len : us.length = k
  lenR : R.length = k
  rows : ∀ (j : Nat) (r : List Int) (u : Value), R[j]? = some r → us[j]? = some u → Ints (fun q => B ≤ q ∧ va.ownBlock ≠ some q) wr u r
  sq : ∀ r ∈ R, r.length = N
  mags : ∀ r ∈ R, r.all mag = true
  hollow : K = 2 → ∀ (j : Nat) (r : List Int), R[j]? = some r → r.getD j 0 = 0
  be : Keeps O O B W0 wr
/-- The row that is being made. -/
structure StR (rb N : Nat) (K : Int) (k : Nat) (W : World) (r : List Int) (wr : World) : Prop where
  mk ::
  len : r.length = N
  cells : wr.heap[rb]? = some (.cells (nl r).toArray 2 (0, 0))
  mags : r.all mag = true
  hollow : K = 2 → r.getD k 0 = 0
  be : Below rb W wr
theorem made_nl (N : Nat) : madeCells #[.int .i64 0] N = (nl (List.replicate N 0)).toArray := by
  apply Array.ext
  · simp [madeCells, nl]
  · intro i h1 h2
    simp [madeCells, nl, Nat.mod_one]
theorem hol_of : ∀ (k : Nat) (R : List (List Int)), (∀ (j : Nat) (r : List Int), R[j]? = some r → r.getD (k + j) 0 = 0) → hol k R = true
  | _, [], _ => rfl
  | k, r :: R, h => by
    unfold hol
    rw [Bool.and_eq_true]
    refine ⟨by have := h 0 r rfl; simpa using this, hol_of (k + 1) R fun j q hq => ?_⟩
    have := h (j + 1) q hq
    rwa [show k + (j + 1) = k + 1 + j by omega] at this
theorem StR.set {rb N : Nat} {K : Int} {k k' : Nat} {W wr : World} {r : List Int} (h : StR rb N K k W r wr) (x : Int) (hx : mag x = true) (hh : K = 2 → k ≠ k') : StR rb N K k W (r.set k' x) (wr.setCell ⟨rb, k', none⟩ (.int .i64 x)) := by
  refine ⟨by rw [List.length_set]; exact h.len, ?_, ?_, fun q => ?_, h.be.setCell (p := ⟨rb, k', none⟩) (Nat.le_refl _) _⟩
  · have := heap_setCell_same wr rb k' _ _ (.int .i64 x) h.cells
    rw [List.setIfInBounds_toArray] at this
    rw [this]
    unfold nl
    rw [List.map_set]
  · rw [List.all_eq_true]
    intro y hy
    rcases List.mem_or_eq_of_mem_set hy with q | q
    · exact List.all_eq_true.1 h.mags y q
    · rw [q]; exact hx
  · have h1 := h.hollow q
    have h2 := hh q
    rw [List.getD_eq_getElem?_getD] at h1 ⊢
    rw [List.getElem?_set_ne (Ne.symm h2)]
    exact h1

theorem Lies.lt {F : Nat → Prop} {w : World} {u : Value} {n : Nat} {cs : List Value} (h : Lies F w u n cs) : Lies (fun q => F q ∧ q < w.heap.size) w u n cs := by
  obtain ⟨A, C, h1, h2, h3, h4⟩ := h
  refine ⟨A, C, h1, h2, h3, fun h0 => ?_⟩
  obtain ⟨b, off, h5, h6, h7, h8⟩ := h4 h0
  exact ⟨b, off, h5, ⟨h6, h7⟩, h7, h8⟩
theorem StQ.step {O B : Nat} {K : Int} {N k : Nat} {W0 wo wr w1 : World} {va : Value} {us : List Value} {R : List (List Int)} {r : List Int} {g cap : Nat} {lit : Obj} (h : StQ O B K N W0 k va us R wo) (hB : B ≤ wo.heap.size) (hO : O < B) (hN : N ≤ 7) (hT : StR wo.heap.size N K k wo r wr)
    (ho : w1.ownsRow B 68 1 (.slice (some ⟨g, 0, none⟩) (k + 1) cap) (k + 1) (us ++ [.slice (some ⟨wo.heap.size, 0, none⟩) N N])) (hg : (wr.alloc lit).grownBy w1 va.ownBlock) (hat : va.ownBlock = some g ∨ g = (wr.alloc lit).heap.size) :
    StQ O B K N W0 (k + 1) (.slice (some ⟨g, 0, none⟩) (k + 1) cap) (us ++ [.slice (some ⟨wo.heap.size, 0, none⟩) N N]) (R ++ [r]) (w1.setCell ⟨O, 3, none⟩ (.slice (some ⟨g, 0, none⟩) (k + 1) cap)) := by
  have nb := new_below wr lit
  have b1 : Below wo.heap.size wo (wr.alloc lit) := hT.be.trans (nb.mono hT.be.size)
  have hlt := h.own.lt
  have hrl := lt_of_block hT.cells
  have hsz := hT.be.size
  have ga : ∀ q, q < wr.heap.size → va.ownBlock ≠ some q → g ≠ q := by
    intro q hq hn e
    subst e
    rcases hat with q1 | q1
    · exact hn q1
    · rw [World.size_alloc] at q1; omega
  have X1 := (h.box.next b1).keep (hg.block O (Nat.lt_of_lt_of_le (by omega) b1.size) (fun q => by have := (hlt O q.symm).1; omega))
  have rb1 : (w1.setCell ⟨O, 3, none⟩ (.slice (some ⟨g, 0, none⟩) (k + 1) cap)).heap[wo.heap.size]? = some (.cells (nl r).toArray 2 (0, 0)) :=
    (Below.heap_setCell w1 ⟨O, 3, none⟩ _ wo.heap.size (by show wo.heap.size ≠ O; omega)).trans ((hg.block wo.heap.size (by rw [World.size_alloc]; omega) (fun q => by have := (hlt _ q.symm).2; omega)).trans ((nb.block _ hrl).trans hT.cells))
  refine ⟨X1.set3 _, ownsRow_setCell_below (a := ⟨O, 3, none⟩) ho hO _, by rw [List.length_append, h.len]; rfl, by rw [List.length_append, h.lenR]; rfl, fun j q u hq hu => ?_, fun q hq => ?_, fun q hq => ?_, fun hK j q hq => ?_, ((h.be.next hB b1).grown (Nat.le_trans hB b1.size) hg (fun q hq => (hlt q hq).1)).store (.inl rfl) _⟩
  · by_cases hj : j < k
    · rw [List.getElem?_append_left (by rw [h.lenR]; exact hj)] at hq
      rw [List.getElem?_append_left (by rw [h.len]; exact hj)] at hu
      have hh := Lies.lt (h.rows j q u hq hu)
      refine Lies.imp (Lies.held hh ⟨?_, fun b hb _ => ?_⟩) (fun b hb => ⟨hb.1.1, fun e => ga b (by omega) hb.1.2 (by simpa [Value.ownBlock] using e)⟩)
      · simp only [World.setCell, Array.size_modify]
        exact Nat.le_trans b1.size hg.size
      · exact (Below.heap_setCell w1 ⟨O, 3, none⟩ _ b (by show b ≠ O; omega)).trans ((hg.block b (Nat.lt_of_lt_of_le hb.2 b1.size) (fun e => hb.1.2 e.symm)).trans (b1.block b hb.2))
    · obtain ⟨hjl, _⟩ := List.getElem?_eq_some_iff.1 hq
      rw [List.length_append, h.lenR] at hjl
      obtain rfl : j = k := by simp at hjl; omega
      rw [List.getElem?_append_right (by rw [h.lenR]; exact Nat.le_refl _), h.lenR, Nat.sub_self] at hq
      rw [List.getElem?_append_right (by rw [h.len]; exact Nat.le_refl _), h.len, Nat.sub_self] at hu
      obtain rfl : r = q := by simpa using hq
      obtain rfl := Option.some.inj hu
      refine ⟨some ⟨wo.heap.size, 0, none⟩, N, by rw [hT.len], by rw [hT.len]; exact Nat.le_refl _, by unfold maxLen; omega, fun _ => ⟨wo.heap.size, 0, rfl, ⟨hB, fun e => ?_⟩, lt_of_block rb1, fun i x hx => ?_⟩⟩
      · refine ga wo.heap.size (by omega) (fun q1 => ?_) (by simpa [Value.ownBlock] using e)
        have := (hlt _ q1).2
        omega
      · unfold World.cell?
        simp only [rb1]
        rw [Nat.zero_add]
        simpa using hx
  · rcases List.mem_append.1 hq with q1 | q1
    · exact h.sq q q1
    · obtain rfl : q = r := by simpa using q1
      exact hT.len
  · rcases List.mem_append.1 hq with q1 | q1
    · exact h.mags q q1
    · obtain rfl : q = r := by simpa using q1
      exact hT.mags
  · by_cases hj : j < k
    · rw [List.getElem?_append_left (by rw [h.lenR]; exact hj)] at hq
      exact h.hollow hK j q hq
    · obtain ⟨hjl, _⟩ := List.getElem?_eq_some_iff.1 hq
      rw [List.length_append, h.lenR] at hjl
      obtain rfl : j = k := by simp at hjl; omega
      rw [List.getElem?_append_right (by rw [h.lenR]; exact Nat.le_refl _), h.lenR, Nat.sub_self] at hq
      obtain rfl : r = q := by simpa using hq
      exact hT.hollow hK
theorem StQ.chk {O B : Nat} {K : Int} {N : Nat} {W0 wr : World} {va : Value} {us : List Value} {R : List (List Int)} (h : StQ O B K N W0 N va us R wr) (hK : K = 1 ∨ K = 2) (h1 : 1 ≤ N) (h8 : N ≤ 7) : (In.mk K 0 [] R 0 []).chk = 0 := by
  refine chk_square hK (by rw [h.lenR]; exact h1) (by rw [h.lenR]; omega) ?_ ?_ (fun q => hol_of 0 R fun j r hr => by rw [Nat.zero_add]; exact h.hollow q j r hr)
  · rw [List.all_eq_true]
    intro r hr
    rw [h.lenR, h.sq r hr]
    simp
  · rw [List.all_eq_true]
    exact h.mags

set_option maxHeartbeats 2000000 in
theorem tameQ_any (I : In) (v : Value) (w : World) (h : Ins (fun _ => True) (fun _ => True) w v I) (K : Int) (hk : (I.kind.tmod 4 + 4).tmod 4 = K) (hK : K = 1 ∨ K = 2) : Calls Tryz.prog 17 #[v, .int .i64 8] w (IsTame w) := by
  unfold IsTame
  obtain ⟨vi, vc, vs, uc, us0, rfl, hi, hc, hs⟩ := h.form
  obtain ⟨A0, C0, rfl, k0, m0⟩ := hi.form
  obtain ⟨A, C, rfl, k1, m1⟩ := hc.form
  obtain ⟨A2, C2, rfl, k2, m2⟩ := hs.form
  unfold maxLen at m0 m1 m2
  obtain ⟨nn1, nn2, nn3, nn4, nn5⟩ := info_num
  obtain ⟨rr1, rr2, rr3, rr4, rr5⟩ := info_row
  have wk := kind_wrap I.kind
  obtain ⟨K1, hK1⟩ : ∃ K1, wrap64 (I.kind.tmod 4 + 4) = K1 := ⟨_, rfl⟩
  have hK0 : K1.tmod 4 = K := by rw [← hK1, wk]; exact hk
  have hb0 : (K == 0) = false := by rcases hK with rfl | rfl <;> rfl
  have hb3 : (K == 3) = false := by rcases hK with rfl | rfl <;> rfl
  have CL := clamp_any
  have HC := Lib.hid hc
  obtain ⟨N, eN⟩ : ∃ N : Nat, max 1 (min (I.cost.length : Int) 7) = (N : Int) := ⟨(max 1 (min (I.cost.length : Int) 7)).toNat, by omega⟩
  have hN1 : 1 ≤ N := by omega
  have hN8 : N ≤ 7 := by omega
  have hmk : ∀ W, (Instr.makeSlice 68 (.int .i64 (N : Int)) (.int .i64 (N : Int))).run Tryz.prog W = .ok (.slice (some ⟨W.heap.size, 0, none⟩) N N) (W.alloc (.cells (madeCells #[.int .i64 0] N) 2)) := by
    intro W
    have := run_make (P := Tryz.prog) W 68 2 nn1 (.int .i64 0) Tryz.underlying68 nn2 nn3 .i64 .i64 (N : Int) (N : Int) (by omega) (by omega) (by rw [nn5]; omega) (by omega)
    rw [nn4] at this
    simpa [Value.cells] using this
  obtain ⟨W0, hW0⟩ : ∃ q, q = (((w.alloc (.cells #[.int .i64 I.kind, .int .i64 I.cap, .slice A0 I.items.length C0, .slice A I.cost.length C, .int .i64 I.size, .slice A2 I.sets.length C2] 58)).alloc (.cells #[.int .i64 0, .int .i64 0, .slice none 0 0, .slice none 0 0, .int .i64 0, .slice none 0 0] 58)).alloc (.cells #[.int .i64 K, .int .i64 0, .slice none 0 0, .slice none 0 0, .int .i64 0, .slice none 0 0] 58)) := ⟨_, rfl⟩
  have hsz : W0.heap.size = w.heap.size + 1 + 1 + 1 := by rw [hW0]; simp
  have HBw : Hid (Below w.heap.size w W0) := by
    rw [hW0]
    exact ((new_below w _).alloc (by simp) _).alloc (by simp; omega) _
  have hX : IBlk w.heap.size 58 (.int .i64 I.kind) (.int .i64 I.cap) (.slice A0 I.items.length C0) (.slice A I.cost.length C) (.int .i64 I.size) (.slice A2 I.sets.length C2) W0 := by
    rw [hW0]
    exact ((iblk_new w _ _ _ _ _ _ _).next (new_below _ _)).next (new_below _ _)
  have hR : IBlk (w.heap.size + 1) 58 (.int .i64 0) (.int .i64 0) (.slice none 0 0) (.slice none 0 0) (.int .i64 0) (.slice none 0 0) W0 := by
    rw [hW0]
    have h0 := iblk_new (w.alloc (.cells #[.int .i64 I.kind, .int .i64 I.cap, .slice A0 I.items.length C0, .slice A I.cost.length C, .int .i64 I.size, .slice A2 I.sets.length C2] 58)) (.int .i64 0) (.int .i64 0) (.slice none 0 0) (.slice none 0 0) (.int .i64 0) (.slice none 0 0) 58
    rw [World.size_alloc] at h0
    exact h0.next (new_below _ _)
  have hO : IBlk (w.heap.size + 1 + 1) 58 (.int .i64 K) (.int .i64 0) (.slice none 0 0) (.slice none 0 0) (.int .i64 0) (.slice none 0 0) W0 := by
    rw [hW0]
    have h0 := iblk_new ((w.alloc (.cells #[.int .i64 I.kind, .int .i64 I.cap, .slice A0 I.items.length C0, .slice A I.cost.length C, .int .i64 I.size, .slice A2 I.sets.length C2] 58)).alloc (.cells #[.int .i64 0, .int .i64 0, .slice none 0 0, .slice none 0 0, .int .i64 0, .slice none 0 0] 58)) (.int .i64 K) (.int .i64 0) (.slice none 0 0) (.slice none 0 0) (.int .i64 0) (.slice none 0 0) 58
    rw [World.size_alloc, World.size_alloc] at h0
    exact h0
  have HX := Lib.hid hX
  have HR := Lib.hid hR
  have HO := Lib.hid hO
  clear h hi hc hs hX hR hO wk hk
  go_enter Tryz.func17, Tryz.ntmps17
  go_wp2
  rw [← hW0]
  have HSZ := Lib.hid hsz
  clear hW0 hsz
  go_loopw [35, 16, 17, 18] (fun i _ _ _ wr => ∃ (k : Nat) (va : Value) (us : List Value) (R : List (List Int)), k ≤ N ∧ i = .int .i64 (k : Nat) ∧ Hid (StQ (w.heap.size + 1 + 1) (w.heap.size + 1 + 1 + 1) K N W0 k va us R wr)) (fun i _ _ _ _ => N - (intOf i).toNat)
  case atStart => exact ⟨0, .slice none 0 0, [], [], by omega, rfl, ⟨HO.out, World.ownsRow_nil _ _ _ _, rfl, rfl, (fun _ _ _ a _ => by simp at a), (fun _ a => by simp at a), (fun _ a => by simp at a), (fun _ _ _ a => by simp at a), Keeps.refl _ _ _ _⟩⟩
  case round =>
    obtain ⟨k, va, us, R, hk, rfl, hS⟩ := hrel
    have hBr := Lib.hid (hS.out.be.below (M := w.heap.size + 1 + 1) (by omega) (by omega) (by omega))
    have hbs : w.heap.size + 1 + 1 + 1 ≤ wr.heap.size := by have := HSZ.out; have := hS.out.be.size; omega
    by_cases hlt : k < N
    · have HM := Lib.hid (new_below wr (.cells (madeCells #[.int .i64 0] N) 2))
      have HR0 : Hid (StR wr.heap.size N K k wr (List.replicate N 0) (wr.alloc (.cells (madeCells #[.int .i64 0] N) 2))) := by
        refine ⟨by simp, ?_, by simp [mag], fun _ => ?_, HM.out⟩
        · rw [heap_alloc_new, made_nl]
        · simp [List.getD_eq_getElem?_getD, List.getElem?_replicate]
          split <;> rfl
      have c01 : (0 : Int) ≤ (k : Int) := by omega
      have c02 : (k : Int) < (N : Int) := by omega
      go_wp2
      obtain ⟨w1, hw1⟩ : ∃ q, q = wr.alloc (.cells (madeCells #[.int .i64 0] N) 2) := ⟨_, rfl⟩
      rw [← hw1] at HM HR0 ⊢
      clear hw1
      obtain ⟨wo, rfl⟩ : ∃ q, q = wr := ⟨_, rfl⟩
      go_loopw [41, 18] (fun i _ wi => ∃ (j : Nat) (r : List Int), j ≤ N ∧ i = .int .i64 (j : Nat) ∧ Hid (StR wo.heap.size N K k wo r wi)) (fun i _ _ => N - (intOf i).toNat)
      case atStart => exact ⟨0, _, by omega, rfl, HR0⟩
      case round =>
        obtain ⟨j, r, hj, rfl, hT⟩ := hrel
        have hBi := Lib.hid (hBr.out.trans (hT.out.be.mono (show w.heap.size + 1 + 1 ≤ wo.heap.size by omega)))
        obtain ⟨x0, x1, x2, x3, x4, x5⟩ := (HX.out.below hBi.out (by omega)).box
        obtain ⟨o0, _, _, _, _, _⟩ := (hS.out.box.below hT.out.be (by omega)).box
        by_cases hjlt : j < N
        · have c03 : (0 : Int) ≤ (j : Int) := by omega
          have c04 : (j : Int) < (N : Int) := by omega
          by_cases hic : k < I.cost.length
          · have ci : (k : Int) < (I.cost.length : Int) := by omega
            have di : decide ((k : Int) < (I.cost.length : Int)) = true := by simp; omega
            obtain ⟨b, off, r0, A', C', rfl, _, hb, hr0, c0, _, hC', hM', hq⟩ := (HC.out.next (HBw.out.trans (hBi.out.mono (by omega)))).get (i := k) hic
            unfold maxLen at hM'
            clear hr0
            by_cases hjc : j < r0.length
            · have cj : (j : Int) < (r0.length : Int) := by omega
              obtain ⟨b2, off2, x, rfl, _, hb2, hx, c1⟩ := hq.get hjc
              clear hx hq
              by_cases hd : K = 2 ∧ k = j
              · obtain ⟨rfl, rfl⟩ := hd
                have HT := hT
                clear hT
                go_wp2
                exact ⟨⟨k + 1, r, by omega, by go_num, HT⟩, by simp [intOf]; omega⟩
              · have HST := Lib.hid (hT.out.set (k' := j) (cl x) (mag_cl x) (fun q e => hd ⟨q, e⟩))
                have hrj : ∃ y, r[j]? = some y := ⟨_, List.getElem?_eq_getElem (by rw [hT.out.len]; exact hjlt)⟩
                obtain ⟨y, hy⟩ := hrj
                have hcl := hT.out.cells
                have st0 : wr.cell? ⟨wo.heap.size, j, none⟩ = some (.int .i64 y) := by
                  unfold World.cell?
                  simp only [hcl]
                  simp [nl_get hy]
                have st1 : wr.frozen? ⟨wo.heap.size, j, none⟩ = false := frozen_of_row wr _ j _ _ hcl
                clear hT hcl
                rcases hK with rfl | rfl
                · go_wp2_with fail
                  (with_reducible refine (CL _ _).mono ?_)
                  rintro e w2 ⟨rfl, rfl⟩
                  go_wp2
                  exact ⟨⟨j + 1, _, by omega, by go_num, HST⟩, by simp [intOf]; omega⟩
                · have hkj : ¬ k = j := fun e => hd ⟨rfl, e⟩
                  have hkj' : ¬ (k : Int) = (j : Int) := by omega
                  have hkb : ((k : Int) == (j : Int)) = false := by simp; omega
                  have hkc : (!((k : Int) == (j : Int))) = true := by simp; omega
                  go_wp2_with fail
                  (with_reducible refine (CL _ _).mono ?_)
                  rintro e w2 ⟨rfl, rfl⟩
                  go_wp2
                  exact ⟨⟨j + 1, _, by omega, by go_num, HST⟩, by simp [intOf]; omega⟩
            · have HT := hT
              clear hT
              go_wp2
              exact ⟨⟨j + 1, r, by omega, by go_num, HT⟩, by simp [intOf]; omega⟩
          · have HT := hT
            clear hT
            go_wp2
            exact ⟨⟨j + 1, r, by omega, by go_num, HT⟩, by simp [intOf]; omega⟩
        · obtain rfl : j = N := by omega
          have OX := hS.out.box.next hT.out.be
          obtain ⟨o0, o1, o2, o3, o4, o5⟩ := OX.box
          have NB := hT.out.be.trans ((new_below wr (.cells #[.slice (some ⟨wo.heap.size, 0, none⟩) j j] 68)).mono hT.out.be.size)
          have HOW := Lib.hid (own_next hS.out.own NB)
          have HOX := Lib.hid (hS.out.box.next NB)
          have HNW := Lib.hid (heap_alloc_new wr (.cells #[.slice (some ⟨wo.heap.size, 0, none⟩) j j] 68))
          have hws : wo.heap.size ≤ wr.heap.size := hT.out.be.size
          obtain ⟨qa, ca, ea⟩ : ∃ A C, va = .slice A k C := by
            rcases hS.out.own.2 with ⟨q1, q2⟩ | ⟨g_, c_, _, q1, _⟩
            · exact ⟨none, 0, by rw [q1, q2]⟩
            · exact ⟨_, _, q1⟩
          subst ea
          have HT := hT
          have HSS := hS
          clear OX NB hT hS
          go_wp2_with (at_builtin; refine wpList_append_lies _ rfl _ _ 23 rfl (w.heap.size + 1 + 1 + 1) 68 rr1 (.slice none 0 0) 1 24 Tryz.underlying23 rr2 rr3 rr4 rr5 rfl (by decide) _ _ _ rfl HOW.out ⟨wr.heap.size, 0, none⟩ 1 1 [.slice (some ⟨wo.heap.size, 0, none⟩) j j] rfl rfl (World.news_of_block HNW.out) (one_head rfl) (by omega) (by unfold maxLen; omega) (by omega) (by simp; omega) _ rfl ?_)
          intro g cap w3 hown hgrow hat hlt3
          have HE := Lib.hid (HSS.out.step hbs (by omega) hN8 HT.out hown hgrow (by rw [World.size_alloc]; exact hat))
          have XB := HOX.out.keep (hgrow.block (w.heap.size + 1 + 1) HOX.out.lt (fun e => by have := (HOW.out.lt _ e.symm).1; omega))
          have ow := XB.box.c3
          have fw := XB.free 3
          clear XB hown hgrow hat HOW HOX HNW HSS HT
          go_wp2
          exact ⟨⟨k + 1, _, _, _, by omega, by go_num, HE⟩, by simp [intOf]; omega⟩
    · obtain rfl : k = N := by omega
      have hS := hS.out
      obtain ⟨o0, o1, o2, o3, o4, o5⟩ := hS.box.box
      have RR := HR.out.below (hS.be.below (M := w.heap.size + 1 + 1) (by omega) (by omega) (by omega)) (by omega)
      obtain ⟨y0, y1, y2, y3, y4, y5⟩ := RR.box
      have fy := fun o => RR.free o
      obtain ⟨qa, ca, ea⟩ : ∃ A C, va = .slice A k C := by
        rcases hS.own.2 with ⟨q1, q2⟩ | ⟨g_, c_, _, q1, _⟩
        · exact ⟨none, 0, by rw [q1, q2]⟩
        · exact ⟨_, _, q1⟩
      have HW := Lib.hid (HBw.out.trans (hBr.out.mono (by omega)))
      have HE : Hid (Ins (fun q => w.heap.size + 1 + 1 + 1 ≤ q) (fun q => w.heap.size + 1 + 1 + 1 ≤ q) wr (.agg #[.int .i64 K, .int .i64 0, .slice none 0 0, va, .int .i64 0, .slice none 0 0]) (In.mk K 0 [] R 0 [])) := by
        refine ⟨⟨.slice none 0 0, va, .slice none 0 0, us, [], rfl, Lies.nil _ _ _, ⟨by rw [hS.len, hS.lenR], ?_, fun i r v a b => (hS.rows i r v a b).imp fun q hq => hq.1⟩, ⟨rfl, Lies.nil _ _ _, fun i r v a _ => by simp at a⟩⟩⟩
        rw [hS.lenR]
        exact (lies_of_own hS.own).imp fun q hq => (hS.own.lt q hq).1
      have HC0 := Lib.hid (hS.chk hK hN1 hN8)
      have HLN := Lib.hid hS.lenR
      have HSQ := Lib.hid hS.sq
      clear hS RR hBr
      subst ea
      go_wp2
      have lo : (w.heap.size + 1) < w.heap.size + 1 + 1 + 1 := by omega
      have hi : w.heap.size ≤ w.heap.size + 1 := by omega
      refine bodyPost_ret (v := .agg #[.int .i64 K, .int .i64 0, .slice none 0 0, .slice qa k ca, .int .i64 0, .slice none 0 0]) (by simp [results, Tryz.results17, go_sem, y0, y1, y2, y3, y4, y5]) rfl ?_
      refine ⟨_, _, rfl, (((((((HE.out.low (a := ⟨_, _, _⟩) lo _).low (a := ⟨_, _, _⟩) lo _).low (a := ⟨_, _, _⟩) lo _).low (a := ⟨_, _, _⟩) lo _).low (a := ⟨_, _, _⟩) lo _).low (a := ⟨_, _, _⟩) lo _)).imp (fun _ _ => trivial) (fun _ _ => trivial), ⟨by show 0 ≤ 40; omega, by show R.length ≤ 70; rw [HLN.out]; omega, fun r hr => by rw [HSQ.out r hr]; omega, by show 0 ≤ 40; omega, fun r hr => by simp at hr⟩, HC0.out, ?_⟩
      exact ((((((HW.out.setCell (p := ⟨_, _, _⟩) hi _).setCell (p := ⟨_, _, _⟩) hi _).setCell (p := ⟨_, _, _⟩) hi _).setCell (p := ⟨_, _, _⟩) hi _).setCell (p := ⟨_, _, _⟩) hi _).setCell (p := ⟨_, _, _⟩) hi _)
end Go.Proofs.YtbadingdklenhaaGreatDoor

/-
  What the laws' tame makes of a cover (layer 9).
-/
namespace Go.Proofs.YtbadingdklenhaaGreatDoor
set_option maxRecDepth 100000
open Go.RowKit

theorem info_lset : ∃ i, Tryz.prog.info? 105 = some i ∧ i.zero = some (.agg #[.int .i64 0, .slice none 0 0]) ∧ i.size = 2 ∧ i.bytes = 32 := info_of (by kernel_rfl)
theorem ris_more : ∀ (s m : Int) (l : List Int), ris s m l = true → ris (s + 1) m l = true
  | _, _, [], _ => rfl
  | s, m, x :: r, h => by
    unfold ris at h ⊢
    simp only [Bool.and_eq_true, decide_eq_true_eq] at h ⊢
    exact ⟨⟨h.1.1, by omega⟩, ris_more s (x + 1) r h.2⟩
theorem ris_snoc : ∀ (s m : Int) (l : List Int), m ≤ s → ris s m l = true → ris (s + 1) m (l ++ [s]) = true
  | s, m, [], hm, _ => by
    show ris (s + 1) m [s] = true
    unfold ris ris
    simp only [Bool.and_eq_true, decide_eq_true_eq]
    exact ⟨⟨hm, by omega⟩, trivial⟩
  | s, m, x :: r, hm, h => by
    show ris (s + 1) m (x :: (r ++ [s])) = true
    unfold ris at h ⊢
    simp only [Bool.and_eq_true, decide_eq_true_eq] at h ⊢
    exact ⟨⟨h.1.1, by omega⟩, ris_snoc s (x + 1) r (by omega) h.2⟩
/-- The sets so far. -/
structure StS (O B : Nat) (Z : Nat) (W0 : World) (k : Nat) (va : Value) (us : List Value) (S : List (Int × List Int)) (wr : World) : Prop where
  mk ::
  box : IBlk O 58 (.int .i64 3) (.int .i64 0) (.slice none 0 0) (.slice none 0 0) (.int .i64 (Z : Int)) va wr
  own : wr.ownsRow B 105 2 va k (flS S us)
  len : us.length = k
  lenS : S.length = k
  rows : ∀ (j : Nat) (s : Int × List Int) (u : Value), S[j]? = some s → us[j]? = some u → Ints (fun q => B ≤ q ∧ va.ownBlock ≠ some q) wr u s.2
  amts : ∀ s ∈ S, amt s.1 = true
  up : ∀ s ∈ S, ris (Z : Int) 0 s.2 = true ∧ s.2.length ≤ 8
  be : Keeps O O B W0 wr
/-- The set that is being made: sb: its variable. -/
structure StE (sb : Nat) (c : Int) (j : Nat) (W : World) (ve : Value) (els : List Int) (wr : World) : Prop where
  mk ::
  cells : wr.heap[sb]? = some (.cells #[.int .i64 c, ve] 105 (0, 0))
  own : wr.ownsRow (sb + 1) 3 1 ve els.length (nl els)
  up : ris (j : Int) 0 els = true
  len : els.length ≤ j
  be : Keeps sb sb (sb + 1) W wr
theorem StE.skip {sb j : Nat} {c : Int} {W : World} {ve : Value} {els : List Int} {wr : World} (h : StE sb c j W ve els wr) : StE sb c (j + 1) W ve els wr :=
  ⟨h.cells, h.own, by have := ris_more _ _ _ h.up; rwa [show ((j + 1 : Nat) : Int) = (j : Int) + 1 by omega], by have := h.len; omega, h.be⟩
theorem StE.step {sb j : Nat} {c : Int} {W : World} {ve : Value} {els : List Int} {wr w1 : World} {lit : Obj} {g cap : Nat} (h : StE sb c j W ve els wr)
    (ho : w1.ownsRow (sb + 1) 3 1 (.slice (some ⟨g, 0, none⟩) (els.length + 1) cap) (els.length + 1) (nl els ++ [.int .i64 (j : Int)])) (hg : (wr.alloc lit).grownBy w1 ve.ownBlock) :
    StE sb c (j + 1) W (.slice (some ⟨g, 0, none⟩) (els.length + 1) cap) (els ++ [(j : Int)]) (w1.setCell ⟨sb, 1, none⟩ (.slice (some ⟨g, 0, none⟩) (els.length + 1) cap)) := by
  have nb := new_below wr lit
  have hlt := h.own.lt
  have hsl := lt_of_block h.cells
  have hws := h.be.size
  have e1 : w1.heap[sb]? = some (.cells #[.int .i64 c, ve] 105 (0, 0)) := (hg.block sb (by rw [World.size_alloc]; omega) (fun q => by have := (hlt _ q.symm).1; omega)).trans ((nb.block _ hsl).trans h.cells)
  refine ⟨heap_setCell_same w1 sb 1 _ _ _ e1, ?_, ?_, by rw [List.length_append]; have := h.len; simp; omega, ((h.be.next (by omega) nb).grown (by rw [World.size_alloc]; omega) hg (fun q hq => (hlt q hq).1)).store (.inl rfl) _⟩
  · rw [List.length_append, nl_append]
    exact ownsRow_setCell_below (a := ⟨sb, 1, none⟩) ho (by show sb < sb + 1; omega) _
  · have := ris_snoc (j : Int) 0 els (by omega) h.up
    rwa [show ((j + 1 : Nat) : Int) = (j : Int) + 1 by omega]
theorem Lies.ltS {F : Nat → Prop} {w : World} {u : Value} {n : Nat} {cs : List Value} (h : Lies F w u n cs) : Lies (fun q => F q ∧ q < w.heap.size) w u n cs := by
  obtain ⟨A, C, h1, h2, h3, h4⟩ := h
  refine ⟨A, C, h1, h2, h3, fun h0 => ?_⟩
  obtain ⟨b, off, h5, h6, h7, h8⟩ := h4 h0
  exact ⟨b, off, h5, ⟨h6, h7⟩, h7, h8⟩
theorem StS.step {O B Z k : Nat} {W0 wo wr w1 : World} {va ve : Value} {us : List Value} {S : List (Int × List Int)} {c : Int} {els : List Int} {g cap : Nat} {lit : Obj} (h : StS O B Z W0 k va us S wo) (hB : B ≤ wo.heap.size) (hO : O < B) (hb : Below wo.heap.size wo wr) (hv : Ints (fun q => wo.heap.size ≤ q) wr ve els) (hc : amt c = true) (hr : ris (Z : Int) 0 els = true) (hl : els.length ≤ 8)
    (ho : w1.ownsRow B 105 2 (.slice (some ⟨g, 0, none⟩) (k + 1) cap) (k + 1) (flS S us ++ [.int .i64 c, ve])) (hg : (wr.alloc lit).grownBy w1 va.ownBlock) (hat : va.ownBlock = some g ∨ g = wr.heap.size + 1) :
    StS O B Z W0 (k + 1) (.slice (some ⟨g, 0, none⟩) (k + 1) cap) (us ++ [ve]) (S ++ [(c, els)]) (w1.setCell ⟨O, 5, none⟩ (.slice (some ⟨g, 0, none⟩) (k + 1) cap)) := by
  have nb := new_below wr lit
  have b1 : Below wo.heap.size wo (wr.alloc lit) := hb.trans (nb.mono hb.size)
  have hlt := h.own.lt
  have hsz := hb.size
  have ga : ∀ q, q < wr.heap.size → va.ownBlock ≠ some q → g ≠ q := by
    intro q hq hn e
    subst e
    rcases hat with q1 | q1
    · exact hn q1
    · omega
  have X1 := (h.box.next b1).keep (hg.block O (Nat.lt_of_lt_of_le (by omega) b1.size) (fun q => by have := (hlt O q.symm).1; omega))
  have hws : (wr.alloc lit).heap.size ≤ (w1.setCell ⟨O, 5, none⟩ (.slice (some ⟨g, 0, none⟩) (k + 1) cap)).heap.size := by
    simp only [World.setCell, Array.size_modify]
    exact hg.size
  have kp : ∀ b, b < wr.heap.size → b ≠ O → va.ownBlock ≠ some b → (w1.setCell ⟨O, 5, none⟩ (.slice (some ⟨g, 0, none⟩) (k + 1) cap)).heap[b]? = wr.heap[b]? := fun b h1 h2 h3 =>
    (Below.heap_setCell w1 ⟨O, 5, none⟩ _ b h2).trans ((hg.block b (by rw [World.size_alloc]; omega) (fun e => h3 e.symm)).trans (nb.block b h1))
  have el : us.length = S.length := by rw [h.len, h.lenS]
  refine ⟨X1.set5 _, by rw [flS_append el]; exact ownsRow_setCell_below (a := ⟨O, 5, none⟩) ho hO _, by rw [List.length_append, h.len]; rfl, by rw [List.length_append, h.lenS]; rfl, fun j q u hq hu => ?_, fun q hq => ?_, fun q hq => ?_, ((h.be.next hB b1).grown (Nat.le_trans hB b1.size) hg (fun q hq => (hlt q hq).1)).store (.inl rfl) _⟩
  · by_cases hj : j < k
    · rw [List.getElem?_append_left (by rw [h.lenS]; exact hj)] at hq
      rw [List.getElem?_append_left (by rw [h.len]; exact hj)] at hu
      have hh := Lies.ltS (h.rows j q u hq hu)
      refine Lies.imp (Lies.held hh ⟨Nat.le_trans b1.size hws, fun b hb' _ => ?_⟩) (fun b hb' => ⟨hb'.1.1, fun e => ga b (by omega) hb'.1.2 (by simpa [Value.ownBlock] using e)⟩)
      exact (kp b (by omega) (by omega) hb'.1.2).trans (hb.block b hb'.2)
    · obtain ⟨hjl, _⟩ := List.getElem?_eq_some_iff.1 hq
      rw [List.length_append, h.lenS] at hjl
      obtain rfl : j = k := by simp at hjl; omega
      rw [List.getElem?_append_right (by rw [h.lenS]; exact Nat.le_refl _), h.lenS, Nat.sub_self] at hq
      rw [List.getElem?_append_right (by rw [h.len]; exact Nat.le_refl _), h.len, Nat.sub_self] at hu
      obtain rfl : (c, els) = q := by simpa using hq
      obtain rfl := Option.some.inj hu
      have nv : ∀ b, wo.heap.size ≤ b → va.ownBlock ≠ some b := fun b hb' e => by have := (hlt b e).2; omega
      have hh := Lies.ltS hv
      refine Lies.imp (Lies.held hh ⟨Nat.le_trans nb.size hws, fun b hb' _ => ?_⟩) (fun b hb' => ⟨by omega, fun e => ga b hb'.2 (nv b hb'.1) (by simpa [Value.ownBlock] using e)⟩)
      exact kp b hb'.2 (by omega) (nv b hb'.1)
  · rcases List.mem_append.1 hq with q1 | q1
    · exact h.amts q q1
    · obtain rfl : q = (c, els) := by simpa using q1
      exact hc
  · rcases List.mem_append.1 hq with q1 | q1
    · exact h.up q q1
    · obtain rfl : q = (c, els) := by simpa using q1
      exact ⟨hr, hl⟩

set_option maxHeartbeats 2000000 in
theorem tameS_any (I : In) (v : Value) (w : World) (h : Ins (fun _ => True) (fun _ => True) w v I) (hk : (I.kind.tmod 4 + 4).tmod 4 = 3) : Calls Tryz.prog 17 #[v, .int .i64 8] w (IsTame w) := by
  unfold IsTame
  obtain ⟨vi, vc, vs, uc, us0, rfl, hi, hc, hs⟩ := h.form
  obtain ⟨A0, C0, rfl, k0, m0⟩ := hi.form
  obtain ⟨A, C, rfl, k1, m1⟩ := hc.form
  obtain ⟨A2, C2, rfl, k2, m2⟩ := hs.form
  unfold maxLen at m0 m1 m2
  obtain ⟨tt1, tt2, tt3, tt4, tt5⟩ := info_int
  obtain ⟨ss1, ss2, ss3, ss4, ss5⟩ := info_lset
  have wk := kind_wrap I.kind
  obtain ⟨K1, hK1⟩ : ∃ K1, wrap64 (I.kind.tmod 4 + 4) = K1 := ⟨_, rfl⟩
  have hK0 : K1.tmod 4 = 3 := by rw [← hK1, wk]; exact hk
  have CL := clamp_any
  have HI := Lib.hid hs
  obtain ⟨L, eL⟩ : ∃ L, min I.sets.length 8 = L := ⟨_, rfl⟩
  have hL : (min (I.sets.length : Int) 8).toNat = L := by omega
  have hL1 : L ≤ I.sets.length := by omega
  have hL2 : L ≤ 8 := by omega
  have hL3 : (0 : Int) ≤ min (I.sets.length : Int) 8 := by omega
  have hL4 : min (I.sets.length : Int) 8 ≤ (C2 : Int) := by omega
  obtain ⟨Z, eZ⟩ : ∃ Z : Nat, (max 0 I.size).tmod 9 = (Z : Int) := by
    rw [Int.tmod_eq_emod_of_nonneg (by omega)]
    exact ⟨(max 0 I.size % 9).toNat, by omega⟩
  have hZ : Z ≤ 8 := by
    rw [Int.tmod_eq_emod_of_nonneg (by omega)] at eZ
    omega
  obtain ⟨W0, hW0⟩ : ∃ q, q = (((w.alloc (.cells #[.int .i64 I.kind, .int .i64 I.cap, .slice A0 I.items.length C0, .slice A I.cost.length C, .int .i64 I.size, .slice A2 I.sets.length C2] 58)).alloc (.cells #[.int .i64 0, .int .i64 0, .slice none 0 0, .slice none 0 0, .int .i64 0, .slice none 0 0] 58)).alloc (.cells #[.int .i64 3, .int .i64 0, .slice none 0 0, .slice none 0 0, .int .i64 (Z : Int), .slice none 0 0] 58)) := ⟨_, rfl⟩
  have hsz : W0.heap.size = w.heap.size + 1 + 1 + 1 := by rw [hW0]; simp
  have HBw : Hid (Below w.heap.size w W0) := by
    rw [hW0]
    exact ((new_below w _).alloc (by simp) _).alloc (by simp; omega) _
  have hX : IBlk w.heap.size 58 (.int .i64 I.kind) (.int .i64 I.cap) (.slice A0 I.items.length C0) (.slice A I.cost.length C) (.int .i64 I.size) (.slice A2 I.sets.length C2) W0 := by
    rw [hW0]
    exact ((iblk_new w _ _ _ _ _ _ _).next (new_below _ _)).next (new_below _ _)
  have hR : IBlk (w.heap.size + 1) 58 (.int .i64 0) (.int .i64 0) (.slice none 0 0) (.slice none 0 0) (.int .i64 0) (.slice none 0 0) W0 := by
    rw [hW0]
    have h0 := iblk_new (w.alloc (.cells #[.int .i64 I.kind, .int .i64 I.cap, .slice A0 I.items.length C0, .slice A I.cost.length C, .int .i64 I.size, .slice A2 I.sets.length C2] 58)) (.int .i64 0) (.int .i64 0) (.slice none 0 0) (.slice none 0 0) (.int .i64 0) (.slice none 0 0) 58
    rw [World.size_alloc] at h0
    exact h0.next (new_below _ _)
  have hO : IBlk (w.heap.size + 1 + 1) 58 (.int .i64 3) (.int .i64 0) (.slice none 0 0) (.slice none 0 0) (.int .i64 (Z : Int)) (.slice none 0 0) W0 := by
    rw [hW0]
    have h0 := iblk_new ((w.alloc (.cells #[.int .i64 I.kind, .int .i64 I.cap, .slice A0 I.items.length C0, .slice A I.cost.length C, .int .i64 I.size, .slice A2 I.sets.length C2] 58)).alloc (.cells #[.int .i64 0, .int .i64 0, .slice none 0 0, .slice none 0 0, .int .i64 0, .slice none 0 0] 58)) (.int .i64 3) (.int .i64 0) (.slice none 0 0) (.slice none 0 0) (.int .i64 (Z : Int)) (.slice none 0 0) 58
    rw [World.size_alloc, World.size_alloc] at h0
    exact h0
  have HX := Lib.hid hX
  have HR := Lib.hid hR
  have HO := Lib.hid hO
  clear h hi hc hs hX hR hO wk hk
  go_enter Tryz.func17, Tryz.ntmps17
  go_wp2
  rw [← hW0]
  have HSZ := Lib.hid hsz
  clear hW0 hsz hL hL3 hL4
  go_loopw [145, 10, 11, 12, 14] (fun i _ _ _ _ wr => ∃ (k : Nat) (va : Value) (us : List Value) (S : List (Int × List Int)), k ≤ L ∧ i = .int .i64 (k : Nat) ∧ Hid (StS (w.heap.size + 1 + 1) (w.heap.size + 1 + 1 + 1) Z W0 k va us S wr)) (fun i _ _ _ _ _ => L - (intOf i).toNat)
  case atStart => exact ⟨0, .slice none 0 0, [], [], by omega, rfl, ⟨HO.out, World.ownsRow_nil _ _ _ _, rfl, rfl, (fun _ _ _ a _ => by simp at a), (fun _ a => by simp at a), (fun _ a => by simp at a), Keeps.refl _ _ _ _⟩⟩
  case round =>
    obtain ⟨k, va, us, S, hk, rfl, hS⟩ := hrel
    have hBr := Lib.hid (hS.out.be.below (M := w.heap.size + 1 + 1) (by omega) (by omega) (by omega))
    have hbs : w.heap.size + 1 + 1 + 1 ≤ wr.heap.size := by have := HSZ.out; have := hS.out.be.size; omega
    obtain ⟨x0, x1, x2, x3, x4, x5⟩ := (HX.out.below hBr.out (by omega)).box
    obtain ⟨o0, o1, o2, o3, o4, o5⟩ := hS.out.box.box
    by_cases hlt : k < L
    · obtain ⟨b, off, s, A', C', rfl, _, hb, hs0, c0w, c1w, _, hC', hM', hq⟩ := HI.out.get (i := k) (by omega)
      have bw := HBw.out.trans (hBr.out.mono (show w.heap.size ≤ w.heap.size + 1 + 1 by omega))
      have c0 := (bw.cell (p := ⟨b, off + k * 2, none⟩) hb).trans c0w
      have c1 := (bw.cell (p := ⟨b, off + k * 2 + 1, none⟩) hb).trans c1w
      have hbl : b < wr.heap.size := cell_lt c0
      clear c0w c1w
      unfold maxLen at hM'
      have c01 : (0 : Int) ≤ (k : Int) := by omega
      have c02 : (k : Int) < (L : Int) := by omega
      obtain ⟨c, ec⟩ : ∃ c, max 0 (cl s.1) = c := ⟨_, rfl⟩
      have hca : amt c = true := by rw [← ec]; exact amt_cl _
      obtain ⟨M, eM⟩ : ∃ M, min s.2.length 40 = M := ⟨_, rfl⟩
      have hM : (min (s.2.length : Int) 40).toNat = M := by omega
      have hM1 : M ≤ s.2.length := by omega
      have hM3 : (0 : Int) ≤ min (s.2.length : Int) 40 := by omega
      have hM4 : min (s.2.length : Int) 40 ≤ (C' : Int) := by omega
      clear hs0
      have NB := (new_below wr (.cells #[.int .i64 s.1, .slice A' s.2.length C'] 105)).alloc (by simp) (.cells #[.int .i64 c, .slice none 0 0] 105)
      have hlt2 : w.heap.size + 1 + 1 < wr.heap.size := by omega
      have ow4 := (hS.out.box.next NB).box.c4
      have HYB : Hid (((wr.alloc (.cells #[.int .i64 s.1, .slice A' s.2.length C'] 105)).alloc (.cells #[.int .i64 c, .slice none 0 0] 105)).heap[wr.heap.size]? = some (.cells #[.int .i64 s.1, .slice A' s.2.length C'] 105 (0, 0))) :=
        ((new_below (wr.alloc (.cells #[.int .i64 s.1, .slice A' s.2.length C'] 105)) (.cells #[.int .i64 c, .slice none 0 0] 105)).block _ (by simp)).trans (heap_alloc_new _ _)
      have HSB : Hid (((wr.alloc (.cells #[.int .i64 s.1, .slice A' s.2.length C'] 105)).alloc (.cells #[.int .i64 c, .slice none 0 0] 105)).heap[wr.heap.size + 1]? = some (.cells #[.int .i64 c, .slice none 0 0] 105 (0, 0))) := by
        have := heap_alloc_new (wr.alloc (.cells #[.int .i64 s.1, .slice A' s.2.length C'] 105)) (.cells #[.int .i64 c, .slice none 0 0] 105)
        rw [World.size_alloc] at this
        exact this
      have HNB := Lib.hid NB
      have HQ := Lib.hid hq
      have HBN := Lib.hid (on bw NB)
      have HOB := Lib.hid NB
      clear NB hq bw
      go_wp2_with fail
      with_reducible refine (CL _ _).mono ?_
      rintro e w2 ⟨rfl, rfl⟩
      go_wp2
      obtain ⟨w1, hw1⟩ : ∃ q, q = (wr.alloc (.cells #[.int .i64 s.1, .slice A' s.2.length C'] 105)).alloc (.cells #[.int .i64 c, .slice none 0 0] 105) := ⟨_, rfl⟩
      have hs1 : w1.heap.size = wr.heap.size + 1 + 1 := by rw [hw1]; simp
      rw [← hw1] at HYB HSB HNB HBN HOB ⊢
      clear hw1 ow4 x0 x1 x2 x3 x4 x5 o0 o1 o2 o3 o4 o5
      obtain ⟨wo, rfl⟩ : ∃ q, q = wr := ⟨_, rfl⟩
      go_loopw [157, 12, 14] (fun i _ _ wi => ∃ (j : Nat) (ve : Value) (els : List Int), j ≤ Z ∧ i = .int .i64 (j : Nat) ∧ Hid (StE (wo.heap.size + 1) c j w1 ve els wi)) (fun i _ _ _ => Z - (intOf i).toNat)
      case atStart => exact ⟨0, .slice none 0 0, [], by omega, rfl, ⟨HSB.out, World.ownsRow_nil _ _ _ _, rfl, Nat.le_refl _, Keeps.refl _ _ _ _⟩⟩
      case round =>
        obtain ⟨j, ve, els, hj, rfl, hE⟩ := hrel
        have hyb : wr.heap[wo.heap.size]? = some (.cells #[.int .i64 s.1, .slice A' s.2.length C'] 105 (0, 0)) := (hE.out.be.block _ (by omega) (by omega) (by omega)).trans HYB.out
        have y1 : wr.cell? ⟨wo.heap.size, 1, none⟩ = some (.slice A' s.2.length C') := by
          unfold World.cell?
          simp only [hyb]
          rfl
        have HB2 := Lib.hid (HBN.out.trans (hE.out.be.below (M := w.heap.size) (by omega) (by omega) (by omega)))
        by_cases hjlt : j < Z
        · have c03 : (0 : Int) ≤ (j : Int) := by omega
          have c04 : (j : Int) < (Z : Int) := by omega
          go_wp2
          obtain ⟨wj, rfl⟩ : ∃ q, q = wr := ⟨_, rfl⟩
          go_loopw [168, 14] (fun i _ wi => ∃ (l : Nat), l ≤ M ∧ i = .int .i64 (l : Nat) ∧ wi = wj) (fun i _ _ => M - (intOf i).toNat)
          case atStart => exact ⟨0, by omega, rfl, rfl⟩
          case round =>
            obtain ⟨l, hl, rfl, rfl⟩ := hrel
            by_cases hll : l < M
            · obtain ⟨b2, off2, x, rfl, _, hb2, hx, c3⟩ := (HQ.out.next HB2.out).get (i := l) (by omega)
              clear hx
              have c05 : (0 : Int) ≤ (l : Int) := by omega
              have c06 : (l : Int) < (M : Int) := by omega
              by_cases hxe : max 0 x % 9 = (j : Int)
              · have hxb : (max 0 x % 9 == (j : Int)) = true := by simpa using hxe
                obtain ⟨qa, ca, ea⟩ : ∃ A C, ve = .slice A els.length C := by
                  rcases hE.out.own.2 with ⟨q1, q2⟩ | ⟨g_, c_, _, q1, _⟩
                  · exact ⟨none, 0, by rw [q1, q2]⟩
                  · exact ⟨_, _, q1⟩
                subst ea
                have hsb := hE.out.cells
                have s1 : wr.cell? ⟨wo.heap.size + 1, 1, none⟩ = some (.slice qa els.length ca) := by
                  unfold World.cell?
                  simp only [hsb]
                  rfl
                have nb := new_below wr (.cells #[.int .i64 (j : Int)] 3)
                have HOW := Lib.hid (own_next hE.out.own nb)
                have HNW := Lib.hid (heap_alloc_new wr (.cells #[.int .i64 (j : Int)] 3))
                have HSV := Lib.hid ((nb.block _ (lt_of_block hsb)).trans hsb)
                have hel := hE.out.len
                have hsl := lt_of_block hsb
                have hbb : wo.heap.size + 1 + 1 ≤ wr.heap.size := by have := hE.out.be.size; omega
                have HEE := hE
                clear hsb nb hE
                go_wp2_with (at_builtin; refine wpList_append_lies _ rfl _ _ 65 rfl (wo.heap.size + 1 + 1) 3 tt1 (.int .i64 0) 1 8 Tryz.underlying65 tt2 tt3 tt4 tt5 rfl (by decide) _ _ _ rfl HOW.out ⟨wr.heap.size, 0, none⟩ 1 1 [.int .i64 (j : Int)] rfl rfl (World.news_of_block HNW.out) (fun v hv => by simp at hv; subst hv; rfl) (by omega) (by unfold maxLen; omega) (by omega) (by simp; omega) _ rfl ?_)
                intro g cap w3 hown hgrow hat hlt3
                have HE1 := Lib.hid (HEE.out.step hown hgrow)
                have hsv := (hgrow.block (wo.heap.size + 1) (by simp; omega) (fun e => by have := (HOW.out.lt _ e.symm).1; omega)).trans HSV.out
                have sw : w3.cell? ⟨wo.heap.size + 1, 1, none⟩ = some (.slice qa els.length ca) := by
                  unfold World.cell?
                  simp only [hsv]
                  rfl
                have sf : w3.frozen? ⟨wo.heap.size + 1, 1, none⟩ = false := frozen_of_row w3 _ 1 _ _ hsv
                clear hsv hown hgrow hat HOW HNW HSV HEE
                go_wp2
                exact ⟨⟨j + 1, _, _, by omega, by go_num, HE1⟩, by simp [intOf]; omega⟩
              · have hxb : (max 0 x % 9 == (j : Int)) = false := by simpa using hxe
                clear hE
                go_wp2
                exact ⟨⟨l + 1, by omega, by go_num, trivial⟩, by simp [intOf]; omega⟩
            · obtain rfl : l = M := by omega
              have HS2 := Lib.hid hE.out.skip
              clear hE
              go_wp2
              exact ⟨⟨j + 1, _, _, by omega, by go_num, HS2⟩, by simp [intOf]; omega⟩
        · obtain rfl : j = Z := by omega
          obtain ⟨qa, ca, ea⟩ : ∃ A C, ve = .slice A els.length C := by
            rcases hE.out.own.2 with ⟨q1, q2⟩ | ⟨g_, c_, _, q1, _⟩
            · exact ⟨none, 0, by rw [q1, q2]⟩
            · exact ⟨_, _, q1⟩
          subst ea
          have hsb := hE.out.cells
          have s0 : wr.cell? ⟨wo.heap.size + 1, 0, none⟩ = some (.int .i64 c) := by
            unfold World.cell?
            simp only [hsb]
            rfl
          have s1 : wr.cell? ⟨wo.heap.size + 1, 1, none⟩ = some (.slice qa els.length ca) := by
            unfold World.cell?
            simp only [hsb]
            rfl
          have HBO : Hid (Below wo.heap.size wo wr) := HOB.out.trans (hE.out.be.below (M := wo.heap.size) (by omega) (by omega) (by omega))
          have OX := hS.out.box.next HBO.out
          obtain ⟨o0, o1, o2, o3, o4, o5⟩ := OX.box
          obtain ⟨qv, cv, ev⟩ : ∃ A C, va = .slice A k C := by
            rcases hS.out.own.2 with ⟨q1, q2⟩ | ⟨g_, c_, _, q1, _⟩
            · exact ⟨none, 0, by rw [q1, q2]⟩
            · exact ⟨_, _, q1⟩
          subst ev
          have NB := HBO.out.trans ((new_below wr (.cells #[.int .i64 c, .slice qa els.length ca] 105)).mono HBO.out.size)
          have HOW := Lib.hid (own_next hS.out.own NB)
          have HOX := Lib.hid (hS.out.box.next NB)
          have HNW := Lib.hid (heap_alloc_new wr (.cells #[.int .i64 c, .slice qa els.length ca] 105))
          have hws : wo.heap.size ≤ wr.heap.size := HBO.out.size
          have HEE := hE
          have HSS := hS
          clear OX NB hE hS hsb
          go_wp2_with (at_builtin; refine wpList_append_lies _ rfl _ _ 56 rfl (w.heap.size + 1 + 1 + 1) 105 ss1 (.agg #[.int .i64 0, .slice none 0 0]) 2 32 Tryz.underlying56 ss2 ss3 ss4 ss5 rfl (by decide) _ _ _ rfl HOW.out ⟨wr.heap.size, 0, none⟩ 1 1 [.int .i64 c, .slice qa els.length ca] rfl rfl (World.news_of_block HNW.out) (one_pair rfl) (by omega) (by unfold maxLen; omega) (by omega) (by simp; omega) _ rfl ?_)
          intro g cap w3 hown hgrow hat hlt3
          have HE := Lib.hid (HSS.out.step hbs (by omega) HBO.out ((lies_of_own HEE.out.own).imp fun q hq => by have := (HEE.out.own.lt q hq).1; omega) hca HEE.out.up (Nat.le_trans HEE.out.len hZ) hown hgrow hat)
          have XB := HOX.out.keep (hgrow.block (w.heap.size + 1 + 1) HOX.out.lt (fun e => by have := (HOW.out.lt _ e.symm).1; omega))
          have ow := XB.box.c5
          have fw := XB.free 5
          clear XB hown hgrow hat HOW HOX HNW HSS HEE
          go_wp2
          exact ⟨⟨k + 1, _, _, _, by omega, by go_num, HE⟩, by simp [intOf]; omega⟩
    · obtain rfl : k = L := by omega
      have hS := hS.out
      have RR := HR.out.below (hS.be.below (M := w.heap.size + 1 + 1) (by omega) (by omega) (by omega)) (by omega)
      obtain ⟨y0, y1, y2, y3, y4, y5⟩ := RR.box
      have fy := fun o => RR.free o
      obtain ⟨qa, ca, ea⟩ : ∃ A C, va = .slice A k C := by
        rcases hS.own.2 with ⟨q1, q2⟩ | ⟨g_, c_, _, q1, _⟩
        · exact ⟨none, 0, by rw [q1, q2]⟩
        · exact ⟨_, _, q1⟩
      have HW := Lib.hid (HBw.out.trans (hBr.out.mono (by omega)))
      have HE : Hid (Ins (fun q => w.heap.size + 1 + 1 + 1 ≤ q) (fun q => w.heap.size + 1 + 1 + 1 ≤ q) wr (.agg #[.int .i64 3, .int .i64 0, .slice none 0 0, .slice none 0 0, .int .i64 (Z : Int), va]) (In.mk 3 0 [] [] Z S)) := by
        refine ⟨⟨.slice none 0 0, .slice none 0 0, va, [], us, rfl, Lies.nil _ _ _, ⟨rfl, Lies.nil _ _ _, fun i r v a _ => by simp at a⟩, ⟨by rw [hS.len, hS.lenS], ?_, fun i r v a b => (hS.rows i r v a b).imp fun q hq => hq.1⟩⟩⟩
        rw [hS.lenS]
        exact (lies_of_own hS.own).imp fun q hq => (hS.own.lt q hq).1
      have HC0 : Hid ((In.mk 3 0 [] [] Z S).chk = 0) := chk_sets (by omega) (by omega) (by rw [hS.lenS]; omega) (by rw [List.all_eq_true]; exact hS.amts) (by rw [List.all_eq_true]; exact fun s hs => (hS.up s hs).1)
      have HLN := Lib.hid hS.lenS
      have HSQ := Lib.hid hS.up
      clear hS RR hBr x0 x1 x2 x3 x4 x5
      subst ea
      go_wp2
      have lo : (w.heap.size + 1) < w.heap.size + 1 + 1 + 1 := by omega
      have hi : w.heap.size ≤ w.heap.size + 1 := by omega
      refine bodyPost_ret (v := .agg #[.int .i64 3, .int .i64 0, .slice none 0 0, .slice none 0 0, .int .i64 (Z : Int), .slice qa k ca]) (by simp [results, Tryz.results17, go_sem, y0, y1, y2, y3, y4, y5]) rfl ?_
      refine ⟨_, _, rfl, (((((((HE.out.low (a := ⟨_, _, _⟩) lo _).low (a := ⟨_, _, _⟩) lo _).low (a := ⟨_, _, _⟩) lo _).low (a := ⟨_, _, _⟩) lo _).low (a := ⟨_, _, _⟩) lo _).low (a := ⟨_, _, _⟩) lo _)).imp (fun _ _ => trivial) (fun _ _ => trivial), ⟨by show 0 ≤ 40; omega, by show 0 ≤ 70; omega, fun r hr => by simp at hr, by show S.length ≤ 40; rw [HLN.out]; omega, fun s hs => by have := (HSQ.out s hs).2; omega⟩, HC0.out, ?_⟩
      exact ((((((HW.out.setCell (p := ⟨_, _, _⟩) hi _).setCell (p := ⟨_, _, _⟩) hi _).setCell (p := ⟨_, _, _⟩) hi _).setCell (p := ⟨_, _, _⟩) hi _).setCell (p := ⟨_, _, _⟩) hi _).setCell (p := ⟨_, _, _⟩) hi _)
end Go.Proofs.YtbadingdklenhaaGreatDoor

/-
  What the laws' tame does (layer 9), whatever the kind: an instance that may be, with short lists.
-/
namespace Go.Proofs.YtbadingdklenhaaGreatDoor

theorem tame_any (I : In) (v : Value) (w : World) (h : Ins (fun _ => True) (fun _ => True) w v I) : Calls Tryz.prog 17 #[v, .int .i64 8] w (IsTame w) := by
  rcases kind_four I.kind with hk | hk | hk | hk
  · exact tameK_any I v w h hk
  · exact tameQ_any I v w h 1 hk (.inl rfl)
  · exact tameQ_any I v w h 2 hk (.inr rfl)
  · exact tameS_any I v w h hk
end Go.Proofs.YtbadingdklenhaaGreatDoor
