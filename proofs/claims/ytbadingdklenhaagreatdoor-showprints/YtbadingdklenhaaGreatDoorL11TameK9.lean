/-
  What the laws' tame makes of a knapsack (layer 9).
-/
import Derived.Test.YtbadingdklenhaaGreatDoorL11Tm
namespace Go.Proofs.YtbadingdklenhaaGreatDoor
set_option maxRecDepth 100000
open Go.RowKit

/-- The items so far. -/
structure StK (O B : Nat) (cap : Int) (W0 : World) (k : Nat) (va : Value) (its : List (Int × Int)) (wr : World) : Prop where
  mk ::
  box : IBlk O 26 (.int .i64 0) (.int .i64 cap) va (.slice none 0 0) (.int .i64 0) (.slice none 0 0) wr
  own : wr.ownsRow B 64 2 va k (fl2 its)
  len : its.length = k
  amts : its.all (fun p => amt p.1 && amt p.2) = true
  be : Keeps O O B W0 wr

/-- What holds at every stage of the round's region: e: which operations have come up; t: the slots. -/
structure A1 (O B : Nat) (cap : Int) (W0 : World) (k : Nat) (va : Value) (its : List (Int × Int)) (yb : Nat) (p : Int × Int) (e : Nat → Bool) (t : Nat → Value) (wr : World) : Prop where
  mk ::
  be : Keeps O O B W0 wr
  sz : B ≤ wr.heap.size
  box : IBlk O 26 (.int .i64 0) (.int .i64 cap) (if e 16 = true then t 126 else va) (.slice none 0 0) (.int .i64 0) (.slice none 0 0) wr
  own : e 14 = false → wr.ownsRow B 64 2 va k (fl2 its)
  new : e 14 = true → ∃ g c, t 126 = .slice (some ⟨g, 0, none⟩) (k + 1) c ∧ wr.ownsRow B 64 2 (.slice (some ⟨g, 0, none⟩) (k + 1) c) (k + 1) (fl2 its ++ [.int .i64 (max 0 (cl p.1)), .int .i64 (max 0 (cl p.2))])
  lit : e 13 = true → e 14 = false → ∃ g, t 125 = .slice (some ⟨g, 0, none⟩) 1 1 ∧ wr.heap[g]? = some (.cells #[.int .i64 (max 0 (cl p.1)), .int .i64 (max 0 (cl p.2))] 64 (0, 0))
  y : wr.heap[yb]? = some (.cells #[.int .i64 p.1, .int .i64 p.2] 64 (0, 0))
  z1 : e 16 = true → e 14 = true
  z2 : e 14 = true → e 1 = true ∧ e 13 = true
  ya : (∀ q, va.ownBlock = some q → q ≠ yb) ∧ O ≠ yb ∧ O < B
namespace A1
variable {O B : Nat} {cap : Int} {W0 : World} {k : Nat} {va : Value} {its : List (Int × Int)} {yb : Nat} {p : Int × Int} {e e' : Nat → Bool} {t t' : Nat → Value} {wr w' : World}
theorem of (h : A1 O B cap W0 k va its yb p e t wr) (h1 : e' 16 = e 16) (h2 : e' 14 = e 14) (h3 : e' 13 = e 13) (h4 : e 1 = true → e' 1 = true) (t1 : t' 126 = t 126) (t2 : t' 125 = t 125) : A1 O B cap W0 k va its yb p e' t' wr := by
  obtain ⟨be, sz, box, own, new, lit, y, z1, z2, ya⟩ := h
  refine ⟨be, sz, ?_, ?_, ?_, ?_, y, ?_, ?_, ya⟩
  · rw [h1, t1]; exact box
  · rw [h2]; exact own
  · rw [h2, t1]; exact new
  · rw [h2, h3, t2]; exact lit
  · rw [h1, h2]; exact z1
  · rw [h2, h3]; exact fun q => ⟨h4 (z2 q).1, (z2 q).2⟩
theorem not14 (h : A1 O B cap W0 k va its yb p e t wr) (hn : e 1 = false ∨ e 13 = false) : e 14 = false := by
  cases hh : e 14 with
  | false => rfl
  | true =>
    obtain ⟨a, b⟩ := h.z2 hh
    rcases hn with q | q <;> simp_all
theorem not16 (h : A1 O B cap W0 k va its yb p e t wr) (hn : e 14 = false) : e 16 = false := by
  cases hh : e 16 with
  | false => rfl
  | true => rw [h.z1 hh] at hn; cases hn
theorem load (h : A1 O B cap W0 k va its yb p e t wr) (hn : e 1 = false) : wr.cell? ⟨O, 2, none⟩ = some va := by
  have hb := h.box
  rw [h.not16 (h.not14 (.inl hn)), if_neg (by decide)] at hb
  exact hb.box.c2
theorem ys (h : A1 O B cap W0 k va its yb p e t wr) : wr.cell? ⟨yb, 0, none⟩ = some (.int .i64 p.1) ∧ wr.cell? ⟨yb, 1, none⟩ = some (.int .i64 p.2) := by
  have hy := h.y
  constructor <;> (unfold World.cell?; simp only [hy]; rfl)
theorem made (h : A1 O B cap W0 k va its yb p e t wr) (hn : e 13 = false) : A1 O B cap W0 k va its yb p (upd e 13 true) (upd t 125 (.slice (some ⟨wr.heap.size, 0, none⟩) 1 1)) (wr.alloc (.cells #[.int .i64 (max 0 (cl p.1)), .int .i64 (max 0 (cl p.2))] 64)) := by
  have nb := new_below wr (.cells #[.int .i64 (max 0 (cl p.1)), .int .i64 (max 0 (cl p.2))] 64)
  have n14 := h.not14 (.inr hn)
  have n16 := h.not16 n14
  obtain ⟨be, sz, box, own, new, lit, y, z1, z2, ya⟩ := h
  have u14 : upd e 13 true 14 = false := n14
  have u16 : upd e 13 true 16 = false := n16
  rw [n16] at box
  refine ⟨be.next sz nb, Nat.le_trans sz nb.size, ?_, fun _ => own_next (own n14) nb, fun q => ?_, fun _ _ => ?_, (nb.block _ (lt_of_block y)).trans y, fun q => ?_, fun q => ?_, ya⟩
  · rw [u16]; exact box.next nb
  · rw [u14] at q; cases q
  · exact ⟨wr.heap.size, rfl, heap_alloc_new _ _⟩
  · rw [u16] at q; cases q
  · rw [u14] at q; cases q
theorem app (h : A1 O B cap W0 k va its yb p e t wr) (hn : e 14 = false) (d1 : e 1 = true) (d13 : e 13 = true) {g c : Nat}
    (ho : w'.ownsRow B 64 2 (.slice (some ⟨g, 0, none⟩) (k + 1) c) (k + 1) (fl2 its ++ [.int .i64 (max 0 (cl p.1)), .int .i64 (max 0 (cl p.2))])) (hg : wr.grownBy w' va.ownBlock) :
    A1 O B cap W0 k va its yb p (upd e 14 true) (upd t 126 (.slice (some ⟨g, 0, none⟩) (k + 1) c)) w' := by
  have n16 := h.not16 hn
  obtain ⟨be, sz, box, own, new, lit, y, z1, z2, ya⟩ := h
  have hlt := (own hn).lt
  have u14 : upd e 14 true 14 = true := rfl
  have u16 : upd e 14 true 16 = false := n16
  rw [n16] at box
  refine ⟨be.grown sz hg (fun q hq => (hlt q hq).1), Nat.le_trans sz hg.size, ?_, fun q => ?_, fun _ => ⟨g, c, rfl, ho⟩, fun _ q => ?_, (hg.block yb (lt_of_block y) (fun q => ya.1 yb q.symm rfl)).trans y, fun _ => u14, fun _ => ⟨d1, d13⟩, ya⟩
  · rw [u16]
    exact box.keep (hg.block O box.lt (fun q => by have := (hlt O q.symm).1; have := ya.2.2; omega))
  · rw [u14] at q; cases q
  · rw [u14] at q; cases q
theorem st (h : A1 O B cap W0 k va its yb p e t wr) (d14 : e 14 = true) (n16 : e 16 = false) : A1 O B cap W0 k va its yb p (upd e 16 true) t (wr.setCell ⟨O, 2, none⟩ (t 126)) := by
  obtain ⟨be, sz, box, own, new, lit, y, z1, z2, ya⟩ := h
  rw [n16] at box
  have u14 : upd e 16 true 14 = true := d14
  refine ⟨be.store (.inl rfl) _, by simpa [World.setCell] using sz, ?_, fun q => ?_, fun _ => ?_, fun _ q => ?_, (Below.heap_setCell wr ⟨O, 2, none⟩ (t 126) yb (fun q => ya.2.1 q.symm)).trans y, fun _ => u14, fun _ => z2 d14, ya⟩
  · show IBlk O _ _ _ (t 126) _ _ _ _
    exact box.set2 _
  · rw [u14] at q; cases q
  · obtain ⟨g, c, e1, e2⟩ := new d14
    exact ⟨g, c, e1, ownsRow_setCell_below (a := ⟨O, 2, none⟩) e2 ya.2.2 _⟩
  · rw [u14] at q; cases q
theorem start (hb : IBlk O 26 (.int .i64 0) (.int .i64 cap) va (.slice none 0 0) (.int .i64 0) (.slice none 0 0) wr) (ho : wr.ownsRow B 64 2 va k (fl2 its)) (hy : wr.heap[yb]? = some (.cells #[.int .i64 p.1, .int .i64 p.2] 64 (0, 0))) (hk : Keeps O O B W0 wr) (hs : B ≤ wr.heap.size) (hya : (∀ q, va.ownBlock = some q → q ≠ yb) ∧ O ≠ yb ∧ O < B) (t : Nat → Value) : A1 O B cap W0 k va its yb p (fun _ => false) t wr :=
  ⟨hk, hs, hb, fun _ => ho, (fun q => by cases q), (fun q => by cases q), hy, (fun q => by cases q), (fun q => by cases q), hya⟩
end A1
def planTK (H yb : Nat) (p : Int × Int) (va : Value) : Plan := { ks := [0, 0, 0, 0, 0, 0, 0, 0, 0, 0, 0, 0, 0, 2, 2, 0, 2], ds := [112, 113, 114, 115, 116, 117, 118, 119, 120, 121, 122, 123, 124, 125, 126, 127, 0], vs := [.pointer (some ⟨H + 1 + 1, 2, none⟩), va, .func (.func 20) #[] #[], .pointer (some ⟨yb, 0, none⟩), .int .i64 p.1, .int .i64 (cl p.1), .int .i64 (max 0 (cl p.1)), .func (.func 20) #[] #[], .pointer (some ⟨yb, 1, none⟩), .int .i64 p.2, .int .i64 (cl p.2), .int .i64 (max 0 (cl p.2)), .agg #[.int .i64 (max 0 (cl p.1)), .int .i64 (max 0 (cl p.2))], undef, undef, .pointer (some ⟨H + 1 + 1, 2, none⟩), undef], ss := [0, 0, 0, 0, 0, 0, 0, 0, 0, 0, 0, 0, 0, 0, 0, 0, 0], zs := [#[], #[], #[], #[], #[], #[], #[], #[], #[], #[], #[], #[], #[], #[], #[], #[], #[]], fs := [#[], #[], #[], #[], #[], #[], #[], #[], #[], #[], #[], #[], #[], #[], #[], #[], #[]], ts := [0, 0, 0, 0, 0, 0, 0, 0, 0, 0, 0, 0, 0, 0, 0, 0, 0] }

set_option maxHeartbeats 2000000 in
theorem tameK_any (I : In) (v : Value) (w : World) (h : Ins (fun _ => True) (fun _ => True) w v I) (hk : (I.kind.tmod 4 + 4).tmod 4 = 0) : Calls Tryz.prog 7 #[v, .int .i64 9] w (IsTame w) := by
  unfold IsTame
  obtain ⟨vi, vc, vs, uc, us, rfl, hi, hc, hs⟩ := h.form
  obtain ⟨A0, C0, rfl, k0, m0⟩ := hi.form
  obtain ⟨A, C, rfl, k1, m1⟩ := hc.form
  obtain ⟨A2, C2, rfl, k2, m2⟩ := hs.form
  unfold maxLen at m0 m1 m2
  obtain ⟨jj1, jj2, jj3, jj4, jj5⟩ := info_pair
  have wk := kind_wrap I.kind
  obtain ⟨K, hK⟩ : ∃ K, wrap64 (I.kind.tmod 4 + 4) = K := ⟨_, rfl⟩
  have hK0 : K.tmod 4 = 0 := by rw [← hK, wk]; exact hk
  have CL := clamp_any
  have HI := Lib.hid hi
  obtain ⟨L, eL⟩ : ∃ L, min I.items.length 9 = L := ⟨_, rfl⟩
  have hL : (min (I.items.length : Int) 9).toNat = L := by omega
  have hL1 : L ≤ I.items.length := by omega
  have hL2 : L ≤ 9 := by omega
  have hL3 : (0 : Int) ≤ min (I.items.length : Int) 9 := by omega
  have hL4 : min (I.items.length : Int) 9 ≤ (C0 : Int) := by omega
  obtain ⟨cap, ecap⟩ : ∃ c, max 0 (cl I.cap) = c := ⟨_, rfl⟩
  have hcap : amt cap = true := by rw [← ecap]; exact amt_cl _
  obtain ⟨W0, hW0⟩ : ∃ q, q = (((w.alloc (.cells #[.int .i64 I.kind, .int .i64 I.cap, .slice A0 I.items.length C0, .slice A I.cost.length C, .int .i64 I.size, .slice A2 I.sets.length C2] 26)).alloc (.cells #[.int .i64 0, .int .i64 0, .slice none 0 0, .slice none 0 0, .int .i64 0, .slice none 0 0] 26)).alloc (.cells #[.int .i64 0, .int .i64 cap, .slice none 0 0, .slice none 0 0, .int .i64 0, .slice none 0 0] 26)) := ⟨_, rfl⟩
  have hsz : W0.heap.size = w.heap.size + 1 + 1 + 1 := by rw [hW0]; simp
  have HBw : Hid (Below w.heap.size w W0) := by
    rw [hW0]
    exact ((new_below w _).alloc (by simp) _).alloc (by simp; omega) _
  have hX : IBlk w.heap.size 26 (.int .i64 I.kind) (.int .i64 I.cap) (.slice A0 I.items.length C0) (.slice A I.cost.length C) (.int .i64 I.size) (.slice A2 I.sets.length C2) W0 := by
    rw [hW0]
    exact ((iblk_new w _ _ _ _ _ _ _).next (new_below _ _)).next (new_below _ _)
  have hR : IBlk (w.heap.size + 1) 26 (.int .i64 0) (.int .i64 0) (.slice none 0 0) (.slice none 0 0) (.int .i64 0) (.slice none 0 0) W0 := by
    rw [hW0]
    have h0 := iblk_new (w.alloc (.cells #[.int .i64 I.kind, .int .i64 I.cap, .slice A0 I.items.length C0, .slice A I.cost.length C, .int .i64 I.size, .slice A2 I.sets.length C2] 26)) (.int .i64 0) (.int .i64 0) (.slice none 0 0) (.slice none 0 0) (.int .i64 0) (.slice none 0 0) 26
    rw [World.size_alloc] at h0
    exact h0.next (new_below _ _)
  have hO : IBlk (w.heap.size + 1 + 1) 26 (.int .i64 0) (.int .i64 cap) (.slice none 0 0) (.slice none 0 0) (.int .i64 0) (.slice none 0 0) W0 := by
    rw [hW0]
    have h0 := iblk_new ((w.alloc (.cells #[.int .i64 I.kind, .int .i64 I.cap, .slice A0 I.items.length C0, .slice A I.cost.length C, .int .i64 I.size, .slice A2 I.sets.length C2] 26)).alloc (.cells #[.int .i64 0, .int .i64 0, .slice none 0 0, .slice none 0 0, .int .i64 0, .slice none 0 0] 26)) (.int .i64 0) (.int .i64 cap) (.slice none 0 0) (.slice none 0 0) (.int .i64 0) (.slice none 0 0) 26
    rw [World.size_alloc, World.size_alloc] at h0
    exact h0
  have HX := Lib.hid hX
  have HR := Lib.hid hR
  have HO := Lib.hid hO
  clear h hi hc hs hX hR hO wk hk
  go_enter Tryz.func7, Tryz.ntmps7
  go_wp2_with fail
  with_reducible refine (CL _ _).mono ?_
  rintro e w1 ⟨rfl, rfl⟩
  go_wp2
  rw [← hW0]
  have HSZ := Lib.hid hsz
  clear hW0 hsz hL hL3 hL4
  go_loopw [108, 8] (fun i _ wr => ∃ (k : Nat) (va : Value) (its : List (Int × Int)), k ≤ L ∧ i = .int .i64 (k : Nat) ∧ Hid (StK (w.heap.size + 1 + 1) (w.heap.size + 1 + 1 + 1) cap W0 k va its wr)) (fun i _ _ => L - (intOf i).toNat)
  case atStart => exact ⟨0, .slice none 0 0, [], by omega, rfl, ⟨HO.out, World.ownsRow_nil _ _ _ _, rfl, rfl, Keeps.refl _ _ _ _⟩⟩
  case round =>
    obtain ⟨k, va, its, hk, rfl, hS⟩ := hrel
    have hBr := Lib.hid (hS.out.be.below (M := w.heap.size + 1 + 1) (by omega) (by omega) (by omega))
    obtain ⟨x0, x1, x2, x3, x4, x5⟩ := (HX.out.below hBr.out (by omega)).box
    have hbs : w.heap.size + 1 + 1 + 1 ≤ wr.heap.size := by have := HSZ.out; have := hS.out.be.size; omega
    by_cases hlt : k < L
    · obtain ⟨b, off, p, rfl, _, hb, hp, c0, c1⟩ := (HI.out.next (HBw.out.trans (hBr.out.mono (by omega)))).get (i := k) (by omega)
      have hbl : b < wr.heap.size := cell_lt c0
      have c01 : (0 : Int) ≤ (k : Int) := by omega
      have c02 : (k : Int) < (L : Int) := by omega
      clear hp
      have NB := new_below wr (.cells #[.int .i64 p.1, .int .i64 p.2] 64)
      have HY : Hid (∀ t, A1 (w.heap.size + 1 + 1) (w.heap.size + 1 + 1 + 1) cap W0 k va its wr.heap.size p (fun _ => false) t (wr.alloc (.cells #[.int .i64 p.1, .int .i64 p.2] 64)).drew) := fun t =>
        A1.start (hS.out.box.next NB.drew) (own_next hS.out.own NB.drew) (heap_alloc_new _ _) (hS.out.be.next hbs NB.drew) (Nat.le_trans hbs NB.size) ⟨fun q hq => by have := (hS.out.own.lt q hq).2; omega, by omega, by omega⟩ t
      have HLN := Lib.hid hS.out.len
      have HAM := Lib.hid hS.out.amts
      clear hS NB
      go_wp2
      obtain ⟨yb, hyb⟩ : ∃ q, q = wr.heap.size := ⟨_, rfl⟩
      rw [← hyb] at HY ⊢
      clear hyb c0 c1 x0 x1 x2 x3 x4 x5 hbs hbl
      have ok : (planTK w.heap.size yb p va).ok = true := rfl
      refine region_inv (Inv := fun lq_ aq_ wr => ∃ (e : Nat → Bool) (t : Nat → Value), lq_ = #[e 0, e 1, e 2, e 3, e 4, e 5, e 6, e 7, e 8, e 9, e 10, e 11, e 12, e 13, e 14, e 15, e 16] ∧ aq_ = ⟨#[.agg #[.int .i64 I.kind, .int .i64 I.cap, .slice (some ⟨b, off, none⟩) I.items.length C0, .slice A I.cost.length C, .int .i64 I.size, .slice A2 I.sets.length C2], .int .i64 9, .pointer (some ⟨w.heap.size, 0, none⟩), undef, .pointer (some ⟨w.heap.size + 1, 0, none⟩), .func (.func 20) #[] #[], .pointer (some ⟨w.heap.size + 1 + 1, 0, none⟩), undef, .pointer (some ⟨yb, 0, none⟩), undef, undef, undef, undef, undef, undef, undef, undef, undef, undef, .pointer (some ⟨w.heap.size, 0, none⟩), .int .i64 I.kind, .int .i64 (I.kind.tmod 4), .int .i64 K, .int .i64 0, .agg #[.int .i64 0, .int .i64 0, .slice none 0 0, .slice none 0 0, .int .i64 0, .slice none 0 0], .pointer (some ⟨w.heap.size + 1 + 1, 0, none⟩), .int .i64 0, undef, undef, undef, undef, undef, undef, undef, undef, undef, undef, undef, undef, undef, undef, undef, undef, undef, undef, undef, undef, undef, undef, undef, undef, undef, undef, undef, undef, undef, undef, undef, undef, undef, undef, undef, undef, undef, undef, undef, undef, undef, undef, undef, undef, undef, undef, undef, undef, undef, undef, undef, undef, undef, undef, undef, undef, undef, undef, undef, undef, undef, undef, undef, undef, .bool true, .bool true, .func (.func 20) #[] #[], .pointer (some ⟨w.heap.size, 1, none⟩), .int .i64 I.cap, .int .i64 (cl I.cap), .int .i64 cap, .pointer (some ⟨w.heap.size + 1 + 1, 1, none⟩), .pointer (some ⟨w.heap.size, 2, none⟩), .slice (some ⟨b, off, none⟩) I.items.length C0, .pointer (some ⟨w.heap.size, 2, none⟩), .slice (some ⟨b, off, none⟩) I.items.length C0, .int .i64 (I.items.length : Int), .int .i64 9, .int .i64 (min ((I.items.length : Int)) 9), .slice (some ⟨b, off, none⟩) L C0, .int .i64 (L : Int), .int .i64 (k : Int), .bool true, .pointer (some ⟨b, off + k * 2, none⟩), .agg #[.int .i64 p.fst, .int .i64 p.snd], t 112, t 113, t 114, t 115, t 116, t 117, t 118, t 119, t 120, t 121, t 122, t 123, t 124, t 125, t 126, t 127, u128, undef, undef, undef, undef, undef, undef, undef, undef, undef, undef, undef, undef, undef, undef, undef, undef, undef, undef, undef, undef, undef, undef, undef, undef, undef, undef, undef, undef, undef, undef, undef, undef, undef, undef, undef, undef, undef, undef, undef, undef, undef, undef, undef, undef, undef, undef, undef, undef, undef, undef, undef, undef, undef, undef, undef, undef, undef, undef, undef, undef, undef, undef, undef, undef], []⟩ ∧ Vals (planTK w.heap.size yb p va) e t ∧ A1 (w.heap.size + 1 + 1) (w.heap.size + 1 + 1 + 1) cap W0 k va its yb p e t wr) (by kernel_rfl) ?step ?start ?done
      case start => exact ⟨fun _ => false, fun j => if j = 112 then u112 else if j = 113 then u113 else if j = 114 then u114 else if j = 115 then u115 else if j = 116 then u116 else if j = 117 then u117 else if j = 118 then u118 else if j = 119 then u119 else if j = 120 then u120 else if j = 121 then u121 else if j = 122 then u122 else if j = 123 then u123 else if j = 124 then u124 else if j = 125 then u125 else if j = 126 then u126 else if j = 127 then u127 else undef, rfl, rfl, Vals.start _ _, HY.out _⟩
      case step =>
        rintro lq_ aq_ wr ⟨e, t, rfl, rfl, hs, hm⟩ q_ o ho hi ha
        match q_, ho, hi, ha with
        | 0, ho, hi, ha =>
          obtain rfl : _ = o := Option.some.inj ho
          have hi : e 0 = false := hi
          refine wpOp_step (i := 0) rfl (fun K hK => ?_)
          have HK : Shut (∀ a w, _ → K a w) := hK
          clear hK ho
          have HS := Lib.hid hs
          have HM := Lib.hid hm
          have HI := Lib.hid hi
          clear hs ha hm hi
          go_simp
          exact HK.out _ _ ⟨upd e 0 true, upd t 112 _, rfl, rfl, by exact HS.out.put ok (i := 0) rfl, (by exact HM.out.of rfl rfl rfl (fun h_ => by first | exact h_ | rfl) rfl rfl)⟩
        | 1, ho, hi, ha =>
          obtain rfl : _ = o := Option.some.inj ho
          have hi : e 1 = false := hi
          have T0 : t 112 = .pointer (some ⟨w.heap.size + 1 + 1, 2, none⟩) := hs.val 0 rfl (ha { on := 0, ground := .data } (by simp) rfl)
          have H0 := Lib.hid T0
          have xa_ := hm.load hi
          refine wpOp_step (i := 1) rfl (fun K hK => ?_)
          have HK : Shut (∀ a w, _ → K a w) := hK
          clear hK ho
          have HS := Lib.hid hs
          have HM := Lib.hid hm
          have HI := Lib.hid hi
          clear hs ha hm hi
          go_simp
          exact HK.out _ _ ⟨upd e 1 true, upd (upd t 112 _) 113 _, rfl, rfl, by rw [upd_self H0.out]; exact HS.out.put ok (i := 1) rfl, (by exact HM.out.of rfl rfl rfl (fun h_ => by first | exact h_ | rfl) rfl rfl)⟩
        | 2, ho, hi, ha =>
          obtain rfl : _ = o := Option.some.inj ho
          have hi : e 2 = false := hi
          refine wpOp_step (i := 2) rfl (fun K hK => ?_)
          have HK : Shut (∀ a w, _ → K a w) := hK
          clear hK ho
          have HS := Lib.hid hs
          have HM := Lib.hid hm
          have HI := Lib.hid hi
          clear hs ha hm hi
          go_simp
          exact HK.out _ _ ⟨upd e 2 true, upd t 114 _, rfl, rfl, by exact HS.out.put ok (i := 2) rfl, (by exact HM.out.of rfl rfl rfl (fun h_ => by first | exact h_ | rfl) rfl rfl)⟩
        | 3, ho, hi, ha =>
          obtain rfl : _ = o := Option.some.inj ho
          have hi : e 3 = false := hi
          refine wpOp_step (i := 3) rfl (fun K hK => ?_)
          have HK : Shut (∀ a w, _ → K a w) := hK
          clear hK ho
          have HS := Lib.hid hs
          have HM := Lib.hid hm
          have HI := Lib.hid hi
          clear hs ha hm hi
          go_simp
          exact HK.out _ _ ⟨upd e 3 true, upd t 115 _, rfl, rfl, by exact HS.out.put ok (i := 3) rfl, (by exact HM.out.of rfl rfl rfl (fun h_ => by first | exact h_ | rfl) rfl rfl)⟩
        | 4, ho, hi, ha =>
          obtain rfl : _ = o := Option.some.inj ho
          have hi : e 4 = false := hi
          have T3 : t 115 = .pointer (some ⟨yb, 0, none⟩) := hs.val 3 rfl (ha { on := 3, ground := .data } (by simp) rfl)
          have H3 := Lib.hid T3
          obtain ⟨ya_, yb_⟩ := hm.ys
          refine wpOp_step (i := 4) rfl (fun K hK => ?_)
          have HK : Shut (∀ a w, _ → K a w) := hK
          clear hK ho
          have HS := Lib.hid hs
          have HM := Lib.hid hm
          have HI := Lib.hid hi
          clear hs ha hm hi
          go_simp
          exact HK.out _ _ ⟨upd e 4 true, upd (upd t 115 _) 116 _, rfl, rfl, by rw [upd_self H3.out]; exact HS.out.put ok (i := 4) rfl, (by exact HM.out.of rfl rfl rfl (fun h_ => by first | exact h_ | rfl) rfl rfl)⟩
        | 5, ho, hi, ha =>
          obtain rfl : _ = o := Option.some.inj ho
          have hi : e 5 = false := hi
          have T2 : t 114 = .func (.func 20) #[] #[] := hs.val 2 rfl (ha { on := 2, ground := .data } (by simp) rfl)
          have H2 := Lib.hid T2
          have T4 : t 116 = .int .i64 p.1 := hs.val 4 rfl (ha { on := 4, ground := .data } (by simp) rfl)
          have H4 := Lib.hid T4
          refine wpOp_step (i := 5) rfl (fun K hK => ?_)
          have HK : Shut (∀ a w, _ → K a w) := hK
          clear hK ho
          have HS := Lib.hid hs
          have HM := Lib.hid hm
          have HI := Lib.hid hi
          clear hs ha hm hi
          go_simp
          (with_reducible refine (CL _ _).mono ?_)
          rintro e' w' ⟨rfl, rfl⟩
          go_wp2_with fail
          exact HK.out _ _ ⟨upd e 5 true, upd (upd (upd t 114 _) 116 _) 117 _, rfl, rfl, by rw [upd_self H2.out, upd_self H4.out]; exact HS.out.put ok (i := 5) rfl, (by exact HM.out.of rfl rfl rfl (fun h_ => by first | exact h_ | rfl) rfl rfl)⟩
        | 6, ho, hi, ha =>
          obtain rfl : _ = o := Option.some.inj ho
          have hi : e 6 = false := hi
          have T5 : t 117 = .int .i64 (cl p.1) := hs.val 5 rfl (ha { on := 5, ground := .data } (by simp) rfl)
          have H5 := Lib.hid T5
          refine wpOp_step (i := 6) rfl (fun K hK => ?_)
          have HK : Shut (∀ a w, _ → K a w) := hK
          clear hK ho
          have HS := Lib.hid hs
          have HM := Lib.hid hm
          have HI := Lib.hid hi
          clear hs ha hm hi
          go_simp
          exact HK.out _ _ ⟨upd e 6 true, upd (upd t 117 _) 118 _, rfl, rfl, by rw [upd_self H5.out]; exact HS.out.put ok (i := 6) rfl, (by exact HM.out.of rfl rfl rfl (fun h_ => by first | exact h_ | rfl) rfl rfl)⟩
        | 7, ho, hi, ha =>
          obtain rfl : _ = o := Option.some.inj ho
          have hi : e 7 = false := hi
          refine wpOp_step (i := 7) rfl (fun K hK => ?_)
          have HK : Shut (∀ a w, _ → K a w) := hK
          clear hK ho
          have HS := Lib.hid hs
          have HM := Lib.hid hm
          have HI := Lib.hid hi
          clear hs ha hm hi
          go_simp
          exact HK.out _ _ ⟨upd e 7 true, upd t 119 _, rfl, rfl, by exact HS.out.put ok (i := 7) rfl, (by exact HM.out.of rfl rfl rfl (fun h_ => by first | exact h_ | rfl) rfl rfl)⟩
        | 8, ho, hi, ha =>
          obtain rfl : _ = o := Option.some.inj ho
          have hi : e 8 = false := hi
          refine wpOp_step (i := 8) rfl (fun K hK => ?_)
          have HK : Shut (∀ a w, _ → K a w) := hK
          clear hK ho
          have HS := Lib.hid hs
          have HM := Lib.hid hm
          have HI := Lib.hid hi
          clear hs ha hm hi
          go_simp
          exact HK.out _ _ ⟨upd e 8 true, upd t 120 _, rfl, rfl, by exact HS.out.put ok (i := 8) rfl, (by exact HM.out.of rfl rfl rfl (fun h_ => by first | exact h_ | rfl) rfl rfl)⟩
        | 9, ho, hi, ha =>
          obtain rfl : _ = o := Option.some.inj ho
          have hi : e 9 = false := hi
          have T8 : t 120 = .pointer (some ⟨yb, 1, none⟩) := hs.val 8 rfl (ha { on := 8, ground := .data } (by simp) rfl)
          have H8 := Lib.hid T8
          obtain ⟨ya_, yb_⟩ := hm.ys
          refine wpOp_step (i := 9) rfl (fun K hK => ?_)
          have HK : Shut (∀ a w, _ → K a w) := hK
          clear hK ho
          have HS := Lib.hid hs
          have HM := Lib.hid hm
          have HI := Lib.hid hi
          clear hs ha hm hi
          go_simp
          exact HK.out _ _ ⟨upd e 9 true, upd (upd t 120 _) 121 _, rfl, rfl, by rw [upd_self H8.out]; exact HS.out.put ok (i := 9) rfl, (by exact HM.out.of rfl rfl rfl (fun h_ => by first | exact h_ | rfl) rfl rfl)⟩
        | 10, ho, hi, ha =>
          obtain rfl : _ = o := Option.some.inj ho
          have hi : e 10 = false := hi
          have T7 : t 119 = .func (.func 20) #[] #[] := hs.val 7 rfl (ha { on := 7, ground := .data } (by simp) rfl)
          have H7 := Lib.hid T7
          have T9 : t 121 = .int .i64 p.2 := hs.val 9 rfl (ha { on := 9, ground := .data } (by simp) rfl)
          have H9 := Lib.hid T9
          refine wpOp_step (i := 10) rfl (fun K hK => ?_)
          have HK : Shut (∀ a w, _ → K a w) := hK
          clear hK ho
          have HS := Lib.hid hs
          have HM := Lib.hid hm
          have HI := Lib.hid hi
          clear hs ha hm hi
          go_simp
          (with_reducible refine (CL _ _).mono ?_)
          rintro e' w' ⟨rfl, rfl⟩
          go_wp2_with fail
          exact HK.out _ _ ⟨upd e 10 true, upd (upd (upd t 119 _) 121 _) 122 _, rfl, rfl, by rw [upd_self H7.out, upd_self H9.out]; exact HS.out.put ok (i := 10) rfl, (by exact HM.out.of rfl rfl rfl (fun h_ => by first | exact h_ | rfl) rfl rfl)⟩
        | 11, ho, hi, ha =>
          obtain rfl : _ = o := Option.some.inj ho
          have hi : e 11 = false := hi
          have T10 : t 122 = .int .i64 (cl p.2) := hs.val 10 rfl (ha { on := 10, ground := .data } (by simp) rfl)
          have H10 := Lib.hid T10
          refine wpOp_step (i := 11) rfl (fun K hK => ?_)
          have HK : Shut (∀ a w, _ → K a w) := hK
          clear hK ho
          have HS := Lib.hid hs
          have HM := Lib.hid hm
          have HI := Lib.hid hi
          clear hs ha hm hi
          go_simp
          exact HK.out _ _ ⟨upd e 11 true, upd (upd t 122 _) 123 _, rfl, rfl, by rw [upd_self H10.out]; exact HS.out.put ok (i := 11) rfl, (by exact HM.out.of rfl rfl rfl (fun h_ => by first | exact h_ | rfl) rfl rfl)⟩
        | 12, ho, hi, ha =>
          obtain rfl : _ = o := Option.some.inj ho
          have hi : e 12 = false := hi
          have T6 : t 118 = .int .i64 (max 0 (cl p.1)) := hs.val 6 rfl (ha { on := 6, ground := .data } (by simp) rfl)
          have H6 := Lib.hid T6
          have T11 : t 123 = .int .i64 (max 0 (cl p.2)) := hs.val 11 rfl (ha { on := 11, ground := .data } (by simp) rfl)
          have H11 := Lib.hid T11
          refine wpOp_step (i := 12) rfl (fun K hK => ?_)
          have HK : Shut (∀ a w, _ → K a w) := hK
          clear hK ho
          have HS := Lib.hid hs
          have HM := Lib.hid hm
          have HI := Lib.hid hi
          clear hs ha hm hi
          go_simp
          exact HK.out _ _ ⟨upd e 12 true, upd (upd (upd t 118 _) 123 _) 124 _, rfl, rfl, by rw [upd_self H6.out, upd_self H11.out]; exact HS.out.put ok (i := 12) rfl, (by exact HM.out.of rfl rfl rfl (fun h_ => by first | exact h_ | rfl) rfl rfl)⟩
        | 13, ho, hi, ha =>
          obtain rfl : _ = o := Option.some.inj ho
          have hi : e 13 = false := hi
          have T12 : t 124 = .agg #[.int .i64 (max 0 (cl p.1)), .int .i64 (max 0 (cl p.2))] := hs.val 12 rfl (ha { on := 12, ground := .data } (by simp) rfl)
          have H12 := Lib.hid T12
          refine wpOp_step (i := 13) rfl (fun K hK => ?_)
          have HK : Shut (∀ a w, _ → K a w) := hK
          clear hK ho
          have HS := Lib.hid hs
          have HM := Lib.hid hm
          have HI := Lib.hid hi
          clear hs ha hm hi
          go_simp
          exact HK.out _ _ ⟨upd e 13 true, upd (upd t 124 _) 125 _, rfl, rfl, by rw [upd_self H12.out]; exact HS.out.skip' (i := 13) rfl rfl, (by rw [upd_self H12.out]; exact HM.out.made HI.out)⟩
        | 14, ho, hi, ha =>
          obtain rfl : _ = o := Option.some.inj ho
          have hi : e 14 = false := hi
          have d1 : e 1 = true := ha { on := 1, ground := .data } (by simp) rfl
          have d13 : e 13 = true := ha { on := 13, ground := .data } (by simp) rfl
          have TS_ : t 113 = va := hs.val 1 rfl d1
          obtain ⟨g_, TX, hN⟩ := hm.lit d13 hi
          have hO := hm.own hi
          refine wpOp_step (i := 14) rfl (fun K hK => ?_)
          refine step_append_lies wr rfl (.tmp 113) (.tmp 125) 22 rfl (w.heap.size + 1 + 1 + 1) 64 jj1 (.agg #[.int .i64 0, .int .i64 0]) 2 16 Tryz.underlying22 jj2 jj3 jj4 jj5 rfl (by decide) va k (fl2 its) TS_ hO ⟨g_, 0, none⟩ 1 1 [.int .i64 (max 0 (cl p.1)), .int .i64 (max 0 (cl p.2))] TX rfl (World.news_of_block hN) (two_one _ _) (by omega) (by unfold maxLen; omega) (by omega) hm.sz wr.heap.size rfl ?_
          intro g' c' w' hown hgrow hat _
          exact hK _ _ ⟨upd e 14 true, upd t 126 _, rfl, rfl, hs.skip' (i := 14) rfl rfl, hm.app hi d1 d13 hown hgrow⟩
        | 15, ho, hi, ha =>
          obtain rfl : _ = o := Option.some.inj ho
          have hi : e 15 = false := hi
          refine wpOp_step (i := 15) rfl (fun K hK => ?_)
          have HK : Shut (∀ a w, _ → K a w) := hK
          clear hK ho
          have HS := Lib.hid hs
          have HM := Lib.hid hm
          have HI := Lib.hid hi
          clear hs ha hm hi
          go_simp
          exact HK.out _ _ ⟨upd e 15 true, upd t 127 _, rfl, rfl, by exact HS.out.put ok (i := 15) rfl, (by exact HM.out.of rfl rfl rfl (fun h_ => by first | exact h_ | rfl) rfl rfl)⟩
        | 16, ho, hi, ha =>
          obtain rfl : _ = o := Option.some.inj ho
          have hi : e 16 = false := hi
          have T15 : t 127 = .pointer (some ⟨w.heap.size + 1 + 1, 2, none⟩) := hs.val 15 rfl (ha { on := 15, ground := .data } (by simp) rfl)
          have H15 := Lib.hid T15
          have DP : Hid (e 14 = true) := ha { on := 14, ground := .data } (by simp) rfl
          obtain ⟨g_, c_, T126, _⟩ := hm.new DP.out
          have H126 := Lib.hid T126
          have of_ := hm.box.free 2
          have oc_ := hm.box.box.c2
          rw [hi, if_neg (by decide)] at oc_
          refine wpOp_step (i := 16) rfl (fun K hK => ?_)
          have HK : Shut (∀ a w, _ → K a w) := hK
          clear hK ho
          have HS := Lib.hid hs
          have HM := Lib.hid hm
          have HI := Lib.hid hi
          clear hs ha hm hi
          go_simp
          exact HK.out _ _ ⟨upd e 16 true, (upd (upd t 127 _) 126 _), rfl, rfl, by rw [upd_self H15.out, upd_self H126.out]; exact HS.out.skip (i := 16) rfl, (by rw [upd_self H15.out, upd_self H126.out, ← H126.out]; exact HM.out.st DP.out HI.out)⟩
        | k + 17, ho, hi, ha => simp at ho
      case done =>
        rintro lq_ aq_ wr ⟨e, t, rfl, rfl, hs, hm⟩ hr
        have hd := ready_done hr rfl (by decide +kernel)
        have E : Hid (∃ va' its', StK (w.heap.size + 1 + 1) (w.heap.size + 1 + 1 + 1) cap W0 (k + 1) va' its' wr) := by
          obtain ⟨g_, c_, e1, e2⟩ := hm.new (hd 14 (by decide))
          have hb := hm.box
          rw [show e 16 = true from hd 16 (by decide), if_pos rfl, e1] at hb
          exact ⟨_, its ++ [(max 0 (cl p.1), max 0 (cl p.2))], hb, by rw [fl2_append]; exact e2, by rw [List.length_append, HLN.out]; rfl, by rw [List.all_append, HAM.out]; simp [amt_cl], hm.be⟩
        clear hd hr hs ok hm HY
        generalize t 112 = t112, t 113 = t113, t 114 = t114, t 115 = t115, t 116 = t116, t 117 = t117, t 118 = t118, t 119 = t119, t 120 = t120, t 121 = t121, t 122 = t122, t 123 = t123, t 124 = t124, t 125 = t125, t 126 = t126, t 127 = t127 at *
        go_wp2
        go_roundw
        case rel =>
          refine ⟨_, _, _, _, _, _, _, _, _, _, _, _, _, _, _, _, _, _, _, _, _, _, ?_, rfl⟩
          obtain ⟨va', its', hE⟩ := E.out
          exact ⟨k + 1, va', its', by omega, by go_num, hE⟩
        case measure => simp [intOf]; omega
    · obtain rfl : k = L := by omega
      have hS := hS.out
      obtain ⟨o0, o1, o2, o3, o4, o5⟩ := hS.box.box
      have RR := HR.out.below (hS.be.below (M := w.heap.size + 1 + 1) (by omega) (by omega) (by omega)) (by omega)
      obtain ⟨y0, y1, y2, y3, y4, y5⟩ := RR.box
      have fy := fun o => RR.free o
      obtain ⟨qa, ca, ea⟩ : ∃ A C, va = .slice A k C := by
        rcases hS.own.2 with ⟨q1, q2⟩ | ⟨g_, c_, _, q1, _⟩
        · exact ⟨none, 0, by rw [q1, q2]⟩
        · exact ⟨_, _, q1⟩
      have HW := Lib.hid (HBw.out.trans (hBr.out.mono (by omega)))
      have HE : Hid (Ins (fun q => w.heap.size + 1 + 1 + 1 ≤ q) (fun q => w.heap.size + 1 + 1 + 1 ≤ q) wr (.agg #[.int .i64 0, .int .i64 cap, va, .slice none 0 0, .int .i64 0, .slice none 0 0]) (In.mk 0 cap its [] 0 [])) := by
        refine ⟨⟨va, .slice none 0 0, .slice none 0 0, [], [], rfl, ?_, ⟨rfl, Lies.nil _ _ _, fun i r v a _ => by simp at a⟩, ⟨rfl, Lies.nil _ _ _, fun i r v a _ => by simp at a⟩⟩⟩
        show Lies _ _ _ its.length (fl2 its)
        rw [hS.len]
        exact (lies_of_own hS.own).imp fun q hq => (hS.own.lt q hq).1
      have HC := Lib.hid (chk_items hcap (by rw [hS.len]; omega) hS.amts)
      have HLN := Lib.hid hS.len
      clear hS RR hBr x0 x1 x2 x3 x4 x5
      subst ea
      go_wp2
      have lo : (w.heap.size + 1) < w.heap.size + 1 + 1 + 1 := by omega
      have hi : w.heap.size ≤ w.heap.size + 1 := by omega
      refine bodyPost_ret (v := .agg #[.int .i64 0, .int .i64 cap, .slice qa k ca, .slice none 0 0, .int .i64 0, .slice none 0 0]) (by simp [results, Tryz.results7, go_sem, y0, y1, y2, y3, y4, y5]) rfl ?_
      refine ⟨_, _, rfl, (((((((HE.out.low (a := ⟨_, _, _⟩) lo _).low (a := ⟨_, _, _⟩) lo _).low (a := ⟨_, _, _⟩) lo _).low (a := ⟨_, _, _⟩) lo _).low (a := ⟨_, _, _⟩) lo _).low (a := ⟨_, _, _⟩) lo _)).imp (fun _ _ => trivial) (fun _ _ => trivial), ⟨by show its.length ≤ 40; rw [HLN.out]; omega, by show 0 ≤ 70; omega, fun r hr => by simp at hr, by show 0 ≤ 40; omega, fun r hr => by simp at hr⟩, HC.out, ?_⟩
      exact ((((((HW.out.setCell (p := ⟨_, _, _⟩) hi _).setCell (p := ⟨_, _, _⟩) hi _).setCell (p := ⟨_, _, _⟩) hi _).setCell (p := ⟨_, _, _⟩) hi _).setCell (p := ⟨_, _, _⟩) hi _).setCell (p := ⟨_, _, _⟩) hi _)
end Go.Proofs.YtbadingdklenhaaGreatDoor
