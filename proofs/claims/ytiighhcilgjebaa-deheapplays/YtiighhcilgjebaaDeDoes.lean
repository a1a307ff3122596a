/-
  What does answers, act by act (DeheapPlays, layer 7). Written by tools/gendoes.py.
-/
import Derived.Test.YtiighhcilgjebaaDePly
namespace Go.Proofs.Ytiighhcilgjebaa
set_option maxRecDepth 100000
open Go.RowKit Go.Sort

/-- An act's value. -/
def actV (o : Int) (x : En) (N : Int) : Value := .agg #[.int .i64 o, .int .i64 x.b, .int .i64 x.d, .int .i64 x.s, .int .i64 x.i, .int .i64 N]
/-- The variables of does: the act, x and y. -/
structure Vars (R : Nat) (o : Int) (x : En) (N : Int) (xv yv : En) (wr : World) : Prop where
  mk ::
  a : wr.heap[R]? = some (.cells #[.int .i64 o, .int .i64 x.b, .int .i64 x.d, .int .i64 x.s, .int .i64 x.i, .int .i64 N] 43 (0, 0))
  b : wr.heap[R + 1]? = some (.cells #[.int .i64 xv.b, .int .i64 xv.d, .int .i64 xv.s, .int .i64 xv.i] 32 (0, 0))
  c : wr.heap[R + 1 + 1]? = some (.cells #[.int .i64 yv.b, .int .i64 yv.d, .int .i64 yv.s, .int .i64 yv.i] 35 (0, 0))
namespace Vars
variable {R : Nat} {o N : Int} {x xv yv : En} {w wr w' : World}
theorem start (w : World) (o : Int) (x : En) (N : Int) : Vars w.heap.size o x N zeroE zeroE (((w.alloc (.cells #[.int .i64 o, .int .i64 x.b, .int .i64 x.d, .int .i64 x.s, .int .i64 x.i, .int .i64 N] 43)).alloc (.cells #[.int .i64 0, .int .i64 0, .int .i64 0, .int .i64 0] 32)).alloc (.cells #[.int .i64 0, .int .i64 0, .int .i64 0, .int .i64 0] 35)) := by
  have s1 : (w.alloc (.cells #[.int .i64 o, .int .i64 x.b, .int .i64 x.d, .int .i64 x.s, .int .i64 x.i, .int .i64 N] 43)).heap.size = w.heap.size + 1 := by simp
  have n0 := heap_alloc_new w (.cells #[.int .i64 o, .int .i64 x.b, .int .i64 x.d, .int .i64 x.s, .int .i64 x.i, .int .i64 N] 43)
  generalize (w.alloc (.cells #[.int .i64 o, .int .i64 x.b, .int .i64 x.d, .int .i64 x.s, .int .i64 x.i, .int .i64 N] 43)) = W1 at *
  have n1 := heap_alloc_new W1 (.cells #[.int .i64 0, .int .i64 0, .int .i64 0, .int .i64 0] 32)
  have s2 : (W1.alloc (.cells #[.int .i64 0, .int .i64 0, .int .i64 0, .int .i64 0] 32)).heap.size = W1.heap.size + 1 := by simp
  have b1 : Below W1.heap.size W1 (W1.alloc (.cells #[.int .i64 0, .int .i64 0, .int .i64 0, .int .i64 0] 32)) := (Below.refl _ _).alloc (Nat.le_refl _) _
  generalize (W1.alloc (.cells #[.int .i64 0, .int .i64 0, .int .i64 0, .int .i64 0] 32)) = W2 at *
  have n2 := heap_alloc_new W2 (.cells #[.int .i64 0, .int .i64 0, .int .i64 0, .int .i64 0] 35)
  have b2 : Below W2.heap.size W2 (W2.alloc (.cells #[.int .i64 0, .int .i64 0, .int .i64 0, .int .i64 0] 35)) := (Below.refl _ _).alloc (Nat.le_refl _) _
  rw [s2] at n2
  rw [s1] at n1 n2
  exact ⟨(b2.block _ (by omega)).trans ((b1.block _ (by omega)).trans n0), (b2.block _ (by omega)).trans n1, n2⟩
theorem l (h : Vars R o x N xv yv wr) : R < wr.heap.size ∧ R + 1 < wr.heap.size ∧ R + 1 + 1 < wr.heap.size :=
  ⟨(Array.getElem?_eq_some_iff.1 h.a).1, (Array.getElem?_eq_some_iff.1 h.b).1, (Array.getElem?_eq_some_iff.1 h.c).1⟩
theorem cells (h : Vars R o x N xv yv wr) : wr.cell? ⟨R, 0, none⟩ = some (.int .i64 o) ∧ wr.cell? ⟨R, 1, none⟩ = some (.int .i64 x.b) ∧ wr.cell? ⟨R, 2, none⟩ = some (.int .i64 x.d) ∧ wr.cell? ⟨R, 3, none⟩ = some (.int .i64 x.s) ∧ wr.cell? ⟨R, 4, none⟩ = some (.int .i64 x.i) ∧ wr.cell? ⟨R, 5, none⟩ = some (.int .i64 N) :=
  ⟨cell_of h.a 0, cell_of h.a 1, cell_of h.a 2, cell_of h.a 3, cell_of h.a 4, cell_of h.a 5⟩
theorem next (h : Vars R o x N xv yv wr) (b : Below wr.heap.size wr w') : Vars R o x N xv yv w' :=
  ⟨(b.block _ h.l.1).trans h.a, (b.block _ h.l.2.1).trans h.b, (b.block _ h.l.2.2).trans h.c⟩
theorem kept {F : Nat → Prop} (h : Vars R o x N xv yv wr) (ho : Kept F wr w') (hF : ∀ b, F b → b < R) : Vars R o x N xv yv w' :=
  ⟨(ho.block _ h.l.1 (fun f => by have := hF _ f; omega)).trans h.a, (ho.block _ h.l.2.1 (fun f => by have := hF _ f; omega)).trans h.b, (ho.block _ h.l.2.2 (fun f => by have := hF _ f; omega)).trans h.c⟩
theorem store1 (h : Vars R o x N xv yv wr) (z : En) : Vars R o x N z yv ((((wr.setCell ⟨R + 1, 0, none⟩ (.int .i64 z.b)).setCell ⟨R + 1, 1, none⟩ (.int .i64 z.d)).setCell ⟨R + 1, 2, none⟩ (.int .i64 z.s)).setCell ⟨R + 1, 3, none⟩ (.int .i64 z.i)) := by
  have o4 := only4 (b := R + 1) (v0 := .int .i64 z.b) (v1 := .int .i64 z.d) (v2 := .int .i64 z.s) (v3 := .int .i64 z.i) (w := wr)
  exact ⟨(o4.block _ (by omega)).trans h.a, set4 h.b, (o4.block _ (by omega)).trans h.c⟩
theorem store2 (h : Vars R o x N xv yv wr) (z : En) : Vars R o x N xv z ((((wr.setCell ⟨R + 1 + 1, 0, none⟩ (.int .i64 z.b)).setCell ⟨R + 1 + 1, 1, none⟩ (.int .i64 z.d)).setCell ⟨R + 1 + 1, 2, none⟩ (.int .i64 z.s)).setCell ⟨R + 1 + 1, 3, none⟩ (.int .i64 z.i)) := by
  have o4 := only4 (b := R + 1 + 1) (v0 := .int .i64 z.b) (v1 := .int .i64 z.d) (v2 := .int .i64 z.s) (v3 := .int .i64 z.i) (w := wr)
  exact ⟨(o4.block _ (by omega)).trans h.a, (o4.block _ (by omega)).trans h.b, set4 h.c⟩
theorem two (h : Vars R o x N xv xv wr) : TwoAt wr (R + 1) 0 (R + 1 + 1) 0 xv wr := by
  obtain ⟨a0, a1, a2, a3, _⟩ := cells4 h.b
  obtain ⟨b0, b1, b2, b3, _⟩ := cells4 h.c
  exact ⟨⟨a0, a1, a2, a3, b0, b1, b2, b3⟩, h.l.2, Below.refl _ _⟩
end Vars
theorem below3 (w : World) (o : Int) (x : En) (N : Int) : Below w.heap.size w (((w.alloc (.cells #[.int .i64 o, .int .i64 x.b, .int .i64 x.d, .int .i64 x.s, .int .i64 x.i, .int .i64 N] 43)).alloc (.cells #[.int .i64 0, .int .i64 0, .int .i64 0, .int .i64 0] 32)).alloc (.cells #[.int .i64 0, .int .i64 0, .int .i64 0, .int .i64 0] 35)) :=
  (((Below.refl _ _).alloc (Nat.le_refl _) _).alloc (by simp) _).alloc (by simp; omega) _
set_option maxHeartbeats 8000000 in
theorem doesPopMin (w0 w : World) (db : Nat) (k : Bool) (m : List En) (v : Value) (F : Nat → Prop) (o : Int) (x : En) (N : Int) (h : Ply w0 db k m v F w) (hop : max 0 o % 8 = 2) : Calls Try.prog 12 #[.pointer (some ⟨db, 0, none⟩), v, actV o x N, .int .i64 25] w (DoesOk w0 db k) := by
  unfold actV
  obtain ⟨p, c, rfl⟩ := doc_slice h.dl
  have HH := Lib.hid h
  have hFR : ∀ b, F b → b < w.heap.size := h.de.lt
  have HFR := Lib.hid hFR
  have HB1 := Lib.hid (below3 w o x N)
  have HV1 := Lib.hid (Vars.start w o x N)
  have P := popMinD _ (by have := h.len; omega) (h.de.next HB1.out)
  unfold AskP at P
  have HHD := Lib.hid (show hdE false m = hdE false m from rfl)
  obtain ⟨z, hz⟩ : ∃ z, hdE false m = z := ⟨_, rfl⟩
  rw [hz] at P
  have HZ := Lib.hid hz
  obtain ⟨n, hn⟩ : ∃ n, m.length = n := ⟨_, rfl⟩
  have HN := Lib.hid hn
  rw [hn]
  have hn25 : n ≤ 25 := by have := h.len; omega
  by_cases h0 : 0 < n
  · have hd : decide (0 < m.length) = true := by exact decide_eq_true (by omega)
    rw [hd] at P
    have h0' : (0 : Int) < (n : Int) := by omega
    clear hz h hd hFR hn
    unfold entV at P
    go_enter Try.func12, Try.ntmps12
    go_wp2_with fail
    with_reducible refine P.mono ?_
    rintro e w2 ⟨rfl, hd2, hk2⟩
    have K2 := (Kept.of (F := F) HB1.out).trans hk2 (fun _ _ f => f)
    have V2 := HV1.out.kept hk2 HFR.out
    obtain ⟨f0, f1, f2, f3, fz0, fz1, fz2, fz3, _⟩ := cells4 V2.b
    have V3 := Lib.hid (V2.store1 z)
    have K3 := K2.set40 (b := w.heap.size + 1) (.inr (by omega)) (.int .i64 z.b) (.int .i64 z.d) (.int .i64 z.s) (.int .i64 z.i)
    have L3 := HH.out.doc_kept K3
    have HK3 := Lib.hid K3
    have Q := rpopD (up := false) (by have := HN.out; omega) (.slice p m.length c) _ L3
    rw [HZ.out, HN.out] at Q
    unfold IsOut at Q
    have HD3 := Lib.hid (hd2.kept (G := fun b => b = w.heap.size + 1) ((Kept.refl (fun b => b = w.heap.size + 1) w2).set40 (Or.inl (show w.heap.size + 1 = w.heap.size + 1 from rfl)) (.int .i64 z.b) (.int .i64 z.d) (.int .i64 z.s) (.int .i64 z.i)) (fun b f e => by have := HFR.out b f; have e' : b = w.heap.size + 1 := e; omega))
    clear hd2 hk2
    clear K2 K3 V2 L3 P HB1 HV1
    unfold entV at Q
    go_wp2_with fail
    generalize ((((w2.setCell ⟨w.heap.size + 1, 0, none⟩ (.int .i64 z.b)).setCell ⟨w.heap.size + 1, 1, none⟩ (.int .i64 z.d)).setCell ⟨w.heap.size + 1, 2, none⟩ (.int .i64 z.s)).setCell ⟨w.heap.size + 1, 3, none⟩ (.int .i64 z.i)) = w3 at *
    with_reducible refine Q.mono ?_
    rintro e w4 ⟨v4, rfl, hd4, be4, ho4⟩
    have V4 := V3.out.next be4
    obtain ⟨g0, g1, g2, g3, gz0, gz1, gz2, gz3, _⟩ := cells4 V4.c
    have V5 := Lib.hid (V4.store2 z)
    have K5 := Lib.hid ((HK3.out.next be4).set40 (b := w.heap.size + 1 + 1) (.inr (by omega)) (.int .i64 z.b) (.int .i64 z.d) (.int .i64 z.s) (.int .i64 z.i))
    have kk := (Kept.refl (fun b => b = w.heap.size + 1 + 1) w4).set40 (b := w.heap.size + 1 + 1) (Or.inl rfl) (.int .i64 z.b) (.int .i64 z.d) (.int .i64 z.s) (.int .i64 z.i)
    have hsep : 0 < (tlE false m).length → ∀ q, v4.ownBlock = some q → ¬ F q ∧ q < w.heap.size := fun h1 q hq => by
      have h1' : 0 < m.length := by rw [tlE_length] at h1; omega
      have hq' := ho4 q hq
      rw [← HN.out] at hq'
      exact ⟨HH.out.sep h1' q hq', HH.out.dl.lt h1' q hq'⟩
    have PL := Lib.hid (HH.out.turn ((HD3.out.next be4).kept kk (fun b f e => by have := HFR.out b f; have e' : b = w.heap.size + 1 + 1 := e; omega)) K5.out (hd4.keptB fun h1 q hq => kk.block q (hd4.lt h1 q hq) (fun e => by have e' : q = w.heap.size + 1 + 1 := e; have := (hsep h1 q hq).2; omega)) (fun h1 q hq => (hsep h1 q hq).1) (HH.out.st.tl false) (by rw [tlE_length]; have := HH.out.len; omega))
    clear hsep hd4 ho4
    have FT := V5.out.two
    have F7 := Lib.hid (FT.next (Below.refl _ _).drew)
    have OX := of_any z
    unfold entV at OX
    clear FT V4 be4 Q V3 V5 kk HK3 K5 HD3
    go_wp2
    generalize ((((w4.setCell ⟨w.heap.size + 1 + 1, 0, none⟩ (.int .i64 z.b)).setCell ⟨w.heap.size + 1 + 1, 1, none⟩ (.int .i64 z.d)).setCell ⟨w.heap.size + 1 + 1, 2, none⟩ (.int .i64 z.s)).setCell ⟨w.heap.size + 1 + 1, 3, none⟩ (.int .i64 z.i)) = w5 at *
    go_region_held3 (fun w' => w'.cell? ⟨w.heap.size + 1, 0, none⟩ = some (.int .i64 z.b) ∧ w'.cell? ⟨w.heap.size + 1, 1, none⟩ = some (.int .i64 z.d) ∧ w'.cell? ⟨w.heap.size + 1, 2, none⟩ = some (.int .i64 z.s) ∧ w'.cell? ⟨w.heap.size + 1, 3, none⟩ = some (.int .i64 z.i) ∧ w'.cell? ⟨w.heap.size + 1 + 1, 0, none⟩ = some (.int .i64 z.b) ∧ w'.cell? ⟨w.heap.size + 1 + 1, 1, none⟩ = some (.int .i64 z.d) ∧ w'.cell? ⟨w.heap.size + 1 + 1, 2, none⟩ = some (.int .i64 z.s) ∧ w'.cell? ⟨w.heap.size + 1 + 1, 3, none⟩ = some (.int .i64 z.i)) (exact F7.out.cs)
      (first
        | (go_at_call 7; (with_reducible refine (OX _).mono ?_); rintro e wn ⟨rfl, mo⟩; have F7 := Lib.hid (F7.out.next mo.below); clear mo))
    have FB := Lib.hid F7.out.B
    clear F7
    go_wp2
    go_ret2
    exact ⟨_, _, F, rfl, PL.out.next FB.out⟩
  · have hd : decide (0 < m.length) = false := by exact decide_eq_false (by omega)
    rw [hd] at P
    obtain rfl : n = 0 := by omega
    clear hz h hd hFR hn
    unfold entV at P
    go_enter Try.func12, Try.ntmps12
    go_wp2_with fail
    with_reducible refine P.mono ?_
    rintro e w2 ⟨rfl, hd2, hk2⟩
    have K2 := (Kept.of (F := F) HB1.out).trans hk2 (fun _ _ f => f)
    have V2 := HV1.out.kept hk2 HFR.out
    obtain ⟨f0, f1, f2, f3, fz0, fz1, fz2, fz3, _⟩ := cells4 V2.b
    have V3 := Lib.hid (V2.store1 z)
    have K3 := K2.set40 (b := w.heap.size + 1) (.inr (by omega)) (.int .i64 z.b) (.int .i64 z.d) (.int .i64 z.s) (.int .i64 z.i)
    have L3 := HH.out.doc_kept K3
    have HK3 := Lib.hid K3
    have Q := rpopD (up := false) (by have := HN.out; omega) (.slice p m.length c) _ L3
    rw [HZ.out, HN.out] at Q
    unfold IsOut at Q
    have HD3 := Lib.hid (hd2.kept (G := fun b => b = w.heap.size + 1) ((Kept.refl (fun b => b = w.heap.size + 1) w2).set40 (Or.inl (show w.heap.size + 1 = w.heap.size + 1 from rfl)) (.int .i64 z.b) (.int .i64 z.d) (.int .i64 z.s) (.int .i64 z.i)) (fun b f e => by have := HFR.out b f; have e' : b = w.heap.size + 1 := e; omega))
    clear hd2 hk2
    clear K2 K3 V2 L3 P HB1 HV1
    unfold entV at Q
    go_wp2_with fail
    generalize ((((w2.setCell ⟨w.heap.size + 1, 0, none⟩ (.int .i64 z.b)).setCell ⟨w.heap.size + 1, 1, none⟩ (.int .i64 z.d)).setCell ⟨w.heap.size + 1, 2, none⟩ (.int .i64 z.s)).setCell ⟨w.heap.size + 1, 3, none⟩ (.int .i64 z.i)) = w3 at *
    with_reducible refine Q.mono ?_
    rintro e w4 ⟨v4, rfl, hd4, be4, ho4⟩
    have V4 := V3.out.next be4
    obtain ⟨g0, g1, g2, g3, gz0, gz1, gz2, gz3, _⟩ := cells4 V4.c
    have V5 := Lib.hid (V4.store2 z)
    have K5 := Lib.hid ((HK3.out.next be4).set40 (b := w.heap.size + 1 + 1) (.inr (by omega)) (.int .i64 z.b) (.int .i64 z.d) (.int .i64 z.s) (.int .i64 z.i))
    have kk := (Kept.refl (fun b => b = w.heap.size + 1 + 1) w4).set40 (b := w.heap.size + 1 + 1) (Or.inl rfl) (.int .i64 z.b) (.int .i64 z.d) (.int .i64 z.s) (.int .i64 z.i)
    have hsep : 0 < (tlE false m).length → ∀ q, v4.ownBlock = some q → ¬ F q ∧ q < w.heap.size := fun h1 q hq => by
      have h1' : 0 < m.length := by rw [tlE_length] at h1; omega
      have hq' := ho4 q hq
      rw [← HN.out] at hq'
      exact ⟨HH.out.sep h1' q hq', HH.out.dl.lt h1' q hq'⟩
    have PL := Lib.hid (HH.out.turn ((HD3.out.next be4).kept kk (fun b f e => by have := HFR.out b f; have e' : b = w.heap.size + 1 + 1 := e; omega)) K5.out (hd4.keptB fun h1 q hq => kk.block q (hd4.lt h1 q hq) (fun e => by have e' : q = w.heap.size + 1 + 1 := e; have := (hsep h1 q hq).2; omega)) (fun h1 q hq => (hsep h1 q hq).1) (HH.out.st.tl false) (by rw [tlE_length]; have := HH.out.len; omega))
    clear hsep hd4 ho4
    have FT := V5.out.two
    have F7 := Lib.hid (FT.next (Below.refl _ _).drew)
    have OX := of_any z
    unfold entV at OX
    clear FT V4 be4 Q V3 V5 kk HK3 K5 HD3
    go_wp2
    generalize ((((w4.setCell ⟨w.heap.size + 1 + 1, 0, none⟩ (.int .i64 z.b)).setCell ⟨w.heap.size + 1 + 1, 1, none⟩ (.int .i64 z.d)).setCell ⟨w.heap.size + 1 + 1, 2, none⟩ (.int .i64 z.s)).setCell ⟨w.heap.size + 1 + 1, 3, none⟩ (.int .i64 z.i)) = w5 at *
    go_region_held3 (fun w' => w'.cell? ⟨w.heap.size + 1, 0, none⟩ = some (.int .i64 z.b) ∧ w'.cell? ⟨w.heap.size + 1, 1, none⟩ = some (.int .i64 z.d) ∧ w'.cell? ⟨w.heap.size + 1, 2, none⟩ = some (.int .i64 z.s) ∧ w'.cell? ⟨w.heap.size + 1, 3, none⟩ = some (.int .i64 z.i) ∧ w'.cell? ⟨w.heap.size + 1 + 1, 0, none⟩ = some (.int .i64 z.b) ∧ w'.cell? ⟨w.heap.size + 1 + 1, 1, none⟩ = some (.int .i64 z.d) ∧ w'.cell? ⟨w.heap.size + 1 + 1, 2, none⟩ = some (.int .i64 z.s) ∧ w'.cell? ⟨w.heap.size + 1 + 1, 3, none⟩ = some (.int .i64 z.i)) (exact F7.out.cs)
      (first
        | (go_at_call 7; (with_reducible refine (OX _).mono ?_); rintro e wn ⟨rfl, mo⟩; have F7 := Lib.hid (F7.out.next mo.below); clear mo))
    have FB := Lib.hid F7.out.B
    clear F7
    go_wp2
    go_ret2
    exact ⟨_, _, F, rfl, PL.out.next FB.out⟩

set_option maxHeartbeats 8000000 in
theorem doesPopMax (w0 w : World) (db : Nat) (k : Bool) (m : List En) (v : Value) (F : Nat → Prop) (o : Int) (x : En) (N : Int) (h : Ply w0 db k m v F w) (hop : max 0 o % 8 = 3) : Calls Try.prog 12 #[.pointer (some ⟨db, 0, none⟩), v, actV o x N, .int .i64 25] w (DoesOk w0 db k) := by
  unfold actV
  obtain ⟨p, c, rfl⟩ := doc_slice h.dl
  have HH := Lib.hid h
  have hFR : ∀ b, F b → b < w.heap.size := h.de.lt
  have HFR := Lib.hid hFR
  have HB1 := Lib.hid (below3 w o x N)
  have HV1 := Lib.hid (Vars.start w o x N)
  have P := popMaxD _ (by have := h.len; omega) (h.de.next HB1.out)
  unfold AskP at P
  have HHD := Lib.hid (show hdE true m = hdE true m from rfl)
  obtain ⟨z, hz⟩ : ∃ z, hdE true m = z := ⟨_, rfl⟩
  rw [hz] at P
  have HZ := Lib.hid hz
  obtain ⟨n, hn⟩ : ∃ n, m.length = n := ⟨_, rfl⟩
  have HN := Lib.hid hn
  rw [hn]
  have hn25 : n ≤ 25 := by have := h.len; omega
  by_cases h0 : 0 < n
  · have hd : decide (0 < m.length) = true := by exact decide_eq_true (by omega)
    rw [hd] at P
    have h0' : (0 : Int) < (n : Int) := by omega
    clear hz h hd hFR hn
    unfold entV at P
    go_enter Try.func12, Try.ntmps12
    go_wp2_with fail
    with_reducible refine P.mono ?_
    rintro e w2 ⟨rfl, hd2, hk2⟩
    have K2 := (Kept.of (F := F) HB1.out).trans hk2 (fun _ _ f => f)
    have V2 := HV1.out.kept hk2 HFR.out
    obtain ⟨f0, f1, f2, f3, fz0, fz1, fz2, fz3, _⟩ := cells4 V2.b
    have V3 := Lib.hid (V2.store1 z)
    have K3 := K2.set40 (b := w.heap.size + 1) (.inr (by omega)) (.int .i64 z.b) (.int .i64 z.d) (.int .i64 z.s) (.int .i64 z.i)
    have L3 := HH.out.doc_kept K3
    have HK3 := Lib.hid K3
    have Q := rpopD (up := true) (by have := HN.out; omega) (.slice p m.length c) _ L3
    rw [HZ.out, HN.out] at Q
    unfold IsOut at Q
    have HD3 := Lib.hid (hd2.kept (G := fun b => b = w.heap.size + 1) ((Kept.refl (fun b => b = w.heap.size + 1) w2).set40 (Or.inl (show w.heap.size + 1 = w.heap.size + 1 from rfl)) (.int .i64 z.b) (.int .i64 z.d) (.int .i64 z.s) (.int .i64 z.i)) (fun b f e => by have := HFR.out b f; have e' : b = w.heap.size + 1 := e; omega))
    clear hd2 hk2
    clear K2 K3 V2 L3 P HB1 HV1
    unfold entV at Q
    go_wp2_with fail
    generalize ((((w2.setCell ⟨w.heap.size + 1, 0, none⟩ (.int .i64 z.b)).setCell ⟨w.heap.size + 1, 1, none⟩ (.int .i64 z.d)).setCell ⟨w.heap.size + 1, 2, none⟩ (.int .i64 z.s)).setCell ⟨w.heap.size + 1, 3, none⟩ (.int .i64 z.i)) = w3 at *
    with_reducible refine Q.mono ?_
    rintro e w4 ⟨v4, rfl, hd4, be4, ho4⟩
    have V4 := V3.out.next be4
    obtain ⟨g0, g1, g2, g3, gz0, gz1, gz2, gz3, _⟩ := cells4 V4.c
    have V5 := Lib.hid (V4.store2 z)
    have K5 := Lib.hid ((HK3.out.next be4).set40 (b := w.heap.size + 1 + 1) (.inr (by omega)) (.int .i64 z.b) (.int .i64 z.d) (.int .i64 z.s) (.int .i64 z.i))
    have kk := (Kept.refl (fun b => b = w.heap.size + 1 + 1) w4).set40 (b := w.heap.size + 1 + 1) (Or.inl rfl) (.int .i64 z.b) (.int .i64 z.d) (.int .i64 z.s) (.int .i64 z.i)
    have hsep : 0 < (tlE true m).length → ∀ q, v4.ownBlock = some q → ¬ F q ∧ q < w.heap.size := fun h1 q hq => by
      have h1' : 0 < m.length := by rw [tlE_length] at h1; omega
      have hq' := ho4 q hq
      rw [← HN.out] at hq'
      exact ⟨HH.out.sep h1' q hq', HH.out.dl.lt h1' q hq'⟩
    have PL := Lib.hid (HH.out.turn ((HD3.out.next be4).kept kk (fun b f e => by have := HFR.out b f; have e' : b = w.heap.size + 1 + 1 := e; omega)) K5.out (hd4.keptB fun h1 q hq => kk.block q (hd4.lt h1 q hq) (fun e => by have e' : q = w.heap.size + 1 + 1 := e; have := (hsep h1 q hq).2; omega)) (fun h1 q hq => (hsep h1 q hq).1) (HH.out.st.tl true) (by rw [tlE_length]; have := HH.out.len; omega))
    clear hsep hd4 ho4
    have FT := V5.out.two
    have F7 := Lib.hid (FT.next (Below.refl _ _).drew)
    have OX := of_any z
    unfold entV at OX
    clear FT V4 be4 Q V3 V5 kk HK3 K5 HD3
    go_wp2
    generalize ((((w4.setCell ⟨w.heap.size + 1 + 1, 0, none⟩ (.int .i64 z.b)).setCell ⟨w.heap.size + 1 + 1, 1, none⟩ (.int .i64 z.d)).setCell ⟨w.heap.size + 1 + 1, 2, none⟩ (.int .i64 z.s)).setCell ⟨w.heap.size + 1 + 1, 3, none⟩ (.int .i64 z.i)) = w5 at *
    go_region_held3 (fun w' => w'.cell? ⟨w.heap.size + 1, 0, none⟩ = some (.int .i64 z.b) ∧ w'.cell? ⟨w.heap.size + 1, 1, none⟩ = some (.int .i64 z.d) ∧ w'.cell? ⟨w.heap.size + 1, 2, none⟩ = some (.int .i64 z.s) ∧ w'.cell? ⟨w.heap.size + 1, 3, none⟩ = some (.int .i64 z.i) ∧ w'.cell? ⟨w.heap.size + 1 + 1, 0, none⟩ = some (.int .i64 z.b) ∧ w'.cell? ⟨w.heap.size + 1 + 1, 1, none⟩ = some (.int .i64 z.d) ∧ w'.cell? ⟨w.heap.size + 1 + 1, 2, none⟩ = some (.int .i64 z.s) ∧ w'.cell? ⟨w.heap.size + 1 + 1, 3, none⟩ = some (.int .i64 z.i)) (exact F7.out.cs)
      (first
        | (go_at_call 7; (with_reducible refine (OX _).mono ?_); rintro e wn ⟨rfl, mo⟩; have F7 := Lib.hid (F7.out.next mo.below); clear mo))
    have FB := Lib.hid F7.out.B
    clear F7
    go_wp2
    go_ret2
    exact ⟨_, _, F, rfl, PL.out.next FB.out⟩
  · have hd : decide (0 < m.length) = false := by exact decide_eq_false (by omega)
    rw [hd] at P
    obtain rfl : n = 0 := by omega
    clear hz h hd hFR hn
    unfold entV at P
    go_enter Try.func12, Try.ntmps12
    go_wp2_with fail
    with_reducible refine P.mono ?_
    rintro e w2 ⟨rfl, hd2, hk2⟩
    have K2 := (Kept.of (F := F) HB1.out).trans hk2 (fun _ _ f => f)
    have V2 := HV1.out.kept hk2 HFR.out
    obtain ⟨f0, f1, f2, f3, fz0, fz1, fz2, fz3, _⟩ := cells4 V2.b
    have V3 := Lib.hid (V2.store1 z)
    have K3 := K2.set40 (b := w.heap.size + 1) (.inr (by omega)) (.int .i64 z.b) (.int .i64 z.d) (.int .i64 z.s) (.int .i64 z.i)
    have L3 := HH.out.doc_kept K3
    have HK3 := Lib.hid K3
    have Q := rpopD (up := true) (by have := HN.out; omega) (.slice p m.length c) _ L3
    rw [HZ.out, HN.out] at Q
    unfold IsOut at Q
    have HD3 := Lib.hid (hd2.kept (G := fun b => b = w.heap.size + 1) ((Kept.refl (fun b => b = w.heap.size + 1) w2).set40 (Or.inl (show w.heap.size + 1 = w.heap.size + 1 from rfl)) (.int .i64 z.b) (.int .i64 z.d) (.int .i64 z.s) (.int .i64 z.i)) (fun b f e => by have := HFR.out b f; have e' : b = w.heap.size + 1 := e; omega))
    clear hd2 hk2
    clear K2 K3 V2 L3 P HB1 HV1
    unfold entV at Q
    go_wp2_with fail
    generalize ((((w2.setCell ⟨w.heap.size + 1, 0, none⟩ (.int .i64 z.b)).setCell ⟨w.heap.size + 1, 1, none⟩ (.int .i64 z.d)).setCell ⟨w.heap.size + 1, 2, none⟩ (.int .i64 z.s)).setCell ⟨w.heap.size + 1, 3, none⟩ (.int .i64 z.i)) = w3 at *
    with_reducible refine Q.mono ?_
    rintro e w4 ⟨v4, rfl, hd4, be4, ho4⟩
    have V4 := V3.out.next be4
    obtain ⟨g0, g1, g2, g3, gz0, gz1, gz2, gz3, _⟩ := cells4 V4.c
    have V5 := Lib.hid (V4.store2 z)
    have K5 := Lib.hid ((HK3.out.next be4).set40 (b := w.heap.size + 1 + 1) (.inr (by omega)) (.int .i64 z.b) (.int .i64 z.d) (.int .i64 z.s) (.int .i64 z.i))
    have kk := (Kept.refl (fun b => b = w.heap.size + 1 + 1) w4).set40 (b := w.heap.size + 1 + 1) (Or.inl rfl) (.int .i64 z.b) (.int .i64 z.d) (.int .i64 z.s) (.int .i64 z.i)
    have hsep : 0 < (tlE true m).length → ∀ q, v4.ownBlock = some q → ¬ F q ∧ q < w.heap.size := fun h1 q hq => by
      have h1' : 0 < m.length := by rw [tlE_length] at h1; omega
      have hq' := ho4 q hq
      rw [← HN.out] at hq'
      exact ⟨HH.out.sep h1' q hq', HH.out.dl.lt h1' q hq'⟩
    have PL := Lib.hid (HH.out.turn ((HD3.out.next be4).kept kk (fun b f e => by have := HFR.out b f; have e' : b = w.heap.size + 1 + 1 := e; omega)) K5.out (hd4.keptB fun h1 q hq => kk.block q (hd4.lt h1 q hq) (fun e => by have e' : q = w.heap.size + 1 + 1 := e; have := (hsep h1 q hq).2; omega)) (fun h1 q hq => (hsep h1 q hq).1) (HH.out.st.tl true) (by rw [tlE_length]; have := HH.out.len; omega))
    clear hsep hd4 ho4
    have FT := V5.out.two
    have F7 := Lib.hid (FT.next (Below.refl _ _).drew)
    have OX := of_any z
    unfold entV at OX
    clear FT V4 be4 Q V3 V5 kk HK3 K5 HD3
    go_wp2
    generalize ((((w4.setCell ⟨w.heap.size + 1 + 1, 0, none⟩ (.int .i64 z.b)).setCell ⟨w.heap.size + 1 + 1, 1, none⟩ (.int .i64 z.d)).setCell ⟨w.heap.size + 1 + 1, 2, none⟩ (.int .i64 z.s)).setCell ⟨w.heap.size + 1 + 1, 3, none⟩ (.int .i64 z.i)) = w5 at *
    go_region_held3 (fun w' => w'.cell? ⟨w.heap.size + 1, 0, none⟩ = some (.int .i64 z.b) ∧ w'.cell? ⟨w.heap.size + 1, 1, none⟩ = some (.int .i64 z.d) ∧ w'.cell? ⟨w.heap.size + 1, 2, none⟩ = some (.int .i64 z.s) ∧ w'.cell? ⟨w.heap.size + 1, 3, none⟩ = some (.int .i64 z.i) ∧ w'.cell? ⟨w.heap.size + 1 + 1, 0, none⟩ = some (.int .i64 z.b) ∧ w'.cell? ⟨w.heap.size + 1 + 1, 1, none⟩ = some (.int .i64 z.d) ∧ w'.cell? ⟨w.heap.size + 1 + 1, 2, none⟩ = some (.int .i64 z.s) ∧ w'.cell? ⟨w.heap.size + 1 + 1, 3, none⟩ = some (.int .i64 z.i)) (exact F7.out.cs)
      (first
        | (go_at_call 7; (with_reducible refine (OX _).mono ?_); rintro e wn ⟨rfl, mo⟩; have F7 := Lib.hid (F7.out.next mo.below); clear mo))
    have FB := Lib.hid F7.out.B
    clear F7
    go_wp2
    go_ret2
    exact ⟨_, _, F, rfl, PL.out.next FB.out⟩

set_option maxHeartbeats 8000000 in
theorem doesMin (w0 w : World) (db : Nat) (k : Bool) (m : List En) (v : Value) (F : Nat → Prop) (o : Int) (x : En) (N : Int) (h : Ply w0 db k m v F w) (hop : max 0 o % 8 = 4) : Calls Try.prog 12 #[.pointer (some ⟨db, 0, none⟩), v, actV o x N, .int .i64 25] w (DoesOk w0 db k) := by
  unfold actV
  obtain ⟨p, c, rfl⟩ := doc_slice h.dl
  have HH := Lib.hid h
  have hFR : ∀ b, F b → b < w.heap.size := h.de.lt
  have HFR := Lib.hid hFR
  have HB1 := Lib.hid (below3 w o x N)
  have HV1 := Lib.hid (Vars.start w o x N)
  have P := minD _ (by have := h.len; omega) (h.de.next HB1.out)
  unfold AskT at P
  have HHD := Lib.hid (show hdE false m = hdE false m from rfl)
  obtain ⟨z, hz⟩ : ∃ z, hdE false m = z := ⟨_, rfl⟩
  rw [hz] at P
  have HZ := Lib.hid hz
  obtain ⟨n, hn⟩ : ∃ n, m.length = n := ⟨_, rfl⟩
  have HN := Lib.hid hn
  rw [hn]
  have hn25 : n ≤ 25 := by have := h.len; omega
  by_cases h0 : 0 < n
  · have hd : decide (0 < m.length) = true := by exact decide_eq_true (by omega)
    rw [hd] at P
    have h0' : (0 : Int) < (n : Int) := by omega
    clear hz h hd hFR hn
    unfold entV at P
    go_enter Try.func12, Try.ntmps12
    go_wp2_with fail
    with_reducible refine P.mono ?_
    rintro e w2 ⟨rfl, be2⟩
    have B2 := HB1.out.trans (be2.mono HB1.out.size)
    have V2 := HV1.out.next be2
    obtain ⟨f0, f1, f2, f3, fz0, fz1, fz2, fz3, _⟩ := cells4 V2.b
    have V3 := Lib.hid (V2.store1 z)
    have B3 := below_set4 B2 (show w.heap.size ≤ w.heap.size + 1 by omega) (.int .i64 z.b) (.int .i64 z.d) (.int .i64 z.s) (.int .i64 z.i)
    have L3 := HH.out.dl.next B3
    have HB3 := Lib.hid B3
    have Q := rpopD (up := false) (by have := HN.out; omega) (.slice p m.length c) _ L3
    rw [HZ.out, HN.out] at Q
    unfold IsOut at Q
    clear be2
    clear B2 B3 V2 L3 P HB1 HV1
    unfold entV at Q
    go_wp2_with fail
    generalize ((((w2.setCell ⟨w.heap.size + 1, 0, none⟩ (.int .i64 z.b)).setCell ⟨w.heap.size + 1, 1, none⟩ (.int .i64 z.d)).setCell ⟨w.heap.size + 1, 2, none⟩ (.int .i64 z.s)).setCell ⟨w.heap.size + 1, 3, none⟩ (.int .i64 z.i)) = w3 at *
    with_reducible refine Q.mono ?_
    rintro e w4 ⟨v4, rfl, hd4, be4, ho4⟩
    have V4 := V3.out.next be4
    obtain ⟨g0, g1, g2, g3, gz0, gz1, gz2, gz3, _⟩ := cells4 V4.c
    have V5 := Lib.hid (V4.store2 z)
    have PLq := (HH.out.next (below_set4 (HB3.out.trans (be4.mono HB3.out.size)) (show w.heap.size ≤ w.heap.size + 1 + 1 by omega) (.int .i64 z.b) (.int .i64 z.d) (.int .i64 z.s) (.int .i64 z.i)))
    rw [HN.out] at PLq
    have PL := Lib.hid PLq
    clear hd4 ho4 PLq
    have FT := V5.out.two
    have F7 := Lib.hid (FT.next (Below.refl _ _).drew)
    have OX := of_any z
    unfold entV at OX
    clear FT V4 be4 Q V3 V5 HB3
    go_wp2
    generalize ((((w4.setCell ⟨w.heap.size + 1 + 1, 0, none⟩ (.int .i64 z.b)).setCell ⟨w.heap.size + 1 + 1, 1, none⟩ (.int .i64 z.d)).setCell ⟨w.heap.size + 1 + 1, 2, none⟩ (.int .i64 z.s)).setCell ⟨w.heap.size + 1 + 1, 3, none⟩ (.int .i64 z.i)) = w5 at *
    go_region_held3 (fun w' => w'.cell? ⟨w.heap.size + 1, 0, none⟩ = some (.int .i64 z.b) ∧ w'.cell? ⟨w.heap.size + 1, 1, none⟩ = some (.int .i64 z.d) ∧ w'.cell? ⟨w.heap.size + 1, 2, none⟩ = some (.int .i64 z.s) ∧ w'.cell? ⟨w.heap.size + 1, 3, none⟩ = some (.int .i64 z.i) ∧ w'.cell? ⟨w.heap.size + 1 + 1, 0, none⟩ = some (.int .i64 z.b) ∧ w'.cell? ⟨w.heap.size + 1 + 1, 1, none⟩ = some (.int .i64 z.d) ∧ w'.cell? ⟨w.heap.size + 1 + 1, 2, none⟩ = some (.int .i64 z.s) ∧ w'.cell? ⟨w.heap.size + 1 + 1, 3, none⟩ = some (.int .i64 z.i)) (exact F7.out.cs)
      (first
        | (go_at_call 7; (with_reducible refine (OX _).mono ?_); rintro e wn ⟨rfl, mo⟩; have F7 := Lib.hid (F7.out.next mo.below); clear mo))
    have FB := Lib.hid F7.out.B
    clear F7
    go_wp2
    go_ret2
    exact ⟨_, _, F, rfl, PL.out.next FB.out⟩
  · have hd : decide (0 < m.length) = false := by exact decide_eq_false (by omega)
    rw [hd] at P
    obtain rfl : n = 0 := by omega
    clear hz h hd hFR hn
    unfold entV at P
    go_enter Try.func12, Try.ntmps12
    go_wp2_with fail
    with_reducible refine P.mono ?_
    rintro e w2 ⟨rfl, be2⟩
    have B2 := HB1.out.trans (be2.mono HB1.out.size)
    have V2 := HV1.out.next be2
    obtain ⟨f0, f1, f2, f3, fz0, fz1, fz2, fz3, _⟩ := cells4 V2.b
    have V3 := Lib.hid (V2.store1 z)
    have B3 := below_set4 B2 (show w.heap.size ≤ w.heap.size + 1 by omega) (.int .i64 z.b) (.int .i64 z.d) (.int .i64 z.s) (.int .i64 z.i)
    have L3 := HH.out.dl.next B3
    have HB3 := Lib.hid B3
    have Q := rpopD (up := false) (by have := HN.out; omega) (.slice p m.length c) _ L3
    rw [HZ.out, HN.out] at Q
    unfold IsOut at Q
    clear be2
    clear B2 B3 V2 L3 P HB1 HV1
    unfold entV at Q
    go_wp2_with fail
    generalize ((((w2.setCell ⟨w.heap.size + 1, 0, none⟩ (.int .i64 z.b)).setCell ⟨w.heap.size + 1, 1, none⟩ (.int .i64 z.d)).setCell ⟨w.heap.size + 1, 2, none⟩ (.int .i64 z.s)).setCell ⟨w.heap.size + 1, 3, none⟩ (.int .i64 z.i)) = w3 at *
    with_reducible refine Q.mono ?_
    rintro e w4 ⟨v4, rfl, hd4, be4, ho4⟩
    have V4 := V3.out.next be4
    obtain ⟨g0, g1, g2, g3, gz0, gz1, gz2, gz3, _⟩ := cells4 V4.c
    have V5 := Lib.hid (V4.store2 z)
    have PLq := (HH.out.next (below_set4 (HB3.out.trans (be4.mono HB3.out.size)) (show w.heap.size ≤ w.heap.size + 1 + 1 by omega) (.int .i64 z.b) (.int .i64 z.d) (.int .i64 z.s) (.int .i64 z.i)))
    rw [HN.out] at PLq
    have PL := Lib.hid PLq
    clear hd4 ho4 PLq
    have FT := V5.out.two
    have F7 := Lib.hid (FT.next (Below.refl _ _).drew)
    have OX := of_any z
    unfold entV at OX
    clear FT V4 be4 Q V3 V5 HB3
    go_wp2
    generalize ((((w4.setCell ⟨w.heap.size + 1 + 1, 0, none⟩ (.int .i64 z.b)).setCell ⟨w.heap.size + 1 + 1, 1, none⟩ (.int .i64 z.d)).setCell ⟨w.heap.size + 1 + 1, 2, none⟩ (.int .i64 z.s)).setCell ⟨w.heap.size + 1 + 1, 3, none⟩ (.int .i64 z.i)) = w5 at *
    go_region_held3 (fun w' => w'.cell? ⟨w.heap.size + 1, 0, none⟩ = some (.int .i64 z.b) ∧ w'.cell? ⟨w.heap.size + 1, 1, none⟩ = some (.int .i64 z.d) ∧ w'.cell? ⟨w.heap.size + 1, 2, none⟩ = some (.int .i64 z.s) ∧ w'.cell? ⟨w.heap.size + 1, 3, none⟩ = some (.int .i64 z.i) ∧ w'.cell? ⟨w.heap.size + 1 + 1, 0, none⟩ = some (.int .i64 z.b) ∧ w'.cell? ⟨w.heap.size + 1 + 1, 1, none⟩ = some (.int .i64 z.d) ∧ w'.cell? ⟨w.heap.size + 1 + 1, 2, none⟩ = some (.int .i64 z.s) ∧ w'.cell? ⟨w.heap.size + 1 + 1, 3, none⟩ = some (.int .i64 z.i)) (exact F7.out.cs)
      (first
        | (go_at_call 7; (with_reducible refine (OX _).mono ?_); rintro e wn ⟨rfl, mo⟩; have F7 := Lib.hid (F7.out.next mo.below); clear mo))
    have FB := Lib.hid F7.out.B
    clear F7
    go_wp2
    go_ret2
    exact ⟨_, _, F, rfl, PL.out.next FB.out⟩

set_option maxHeartbeats 8000000 in
theorem doesMax (w0 w : World) (db : Nat) (k : Bool) (m : List En) (v : Value) (F : Nat → Prop) (o : Int) (x : En) (N : Int) (h : Ply w0 db k m v F w) (hop : max 0 o % 8 = 5) : Calls Try.prog 12 #[.pointer (some ⟨db, 0, none⟩), v, actV o x N, .int .i64 25] w (DoesOk w0 db k) := by
  unfold actV
  obtain ⟨p, c, rfl⟩ := doc_slice h.dl
  have HH := Lib.hid h
  have hFR : ∀ b, F b → b < w.heap.size := h.de.lt
  have HFR := Lib.hid hFR
  have HB1 := Lib.hid (below3 w o x N)
  have HV1 := Lib.hid (Vars.start w o x N)
  have P := maxD _ (by have := h.len; omega) (h.de.next HB1.out)
  unfold AskT at P
  have HHD := Lib.hid (show hdE true m = hdE true m from rfl)
  obtain ⟨z, hz⟩ : ∃ z, hdE true m = z := ⟨_, rfl⟩
  rw [hz] at P
  have HZ := Lib.hid hz
  obtain ⟨n, hn⟩ : ∃ n, m.length = n := ⟨_, rfl⟩
  have HN := Lib.hid hn
  rw [hn]
  have hn25 : n ≤ 25 := by have := h.len; omega
  by_cases h0 : 0 < n
  · have hd : decide (0 < m.length) = true := by exact decide_eq_true (by omega)
    rw [hd] at P
    have h0' : (0 : Int) < (n : Int) := by omega
    clear hz h hd hFR hn
    unfold entV at P
    go_enter Try.func12, Try.ntmps12
    go_wp2_with fail
    with_reducible refine P.mono ?_
    rintro e w2 ⟨rfl, be2⟩
    have B2 := HB1.out.trans (be2.mono HB1.out.size)
    have V2 := HV1.out.next be2
    obtain ⟨f0, f1, f2, f3, fz0, fz1, fz2, fz3, _⟩ := cells4 V2.b
    have V3 := Lib.hid (V2.store1 z)
    have B3 := below_set4 B2 (show w.heap.size ≤ w.heap.size + 1 by omega) (.int .i64 z.b) (.int .i64 z.d) (.int .i64 z.s) (.int .i64 z.i)
    have L3 := HH.out.dl.next B3
    have HB3 := Lib.hid B3
    have Q := rpopD (up := true) (by have := HN.out; omega) (.slice p m.length c) _ L3
    rw [HZ.out, HN.out] at Q
    unfold IsOut at Q
    clear be2
    clear B2 B3 V2 L3 P HB1 HV1
    unfold entV at Q
    go_wp2_with fail
    generalize ((((w2.setCell ⟨w.heap.size + 1, 0, none⟩ (.int .i64 z.b)).setCell ⟨w.heap.size + 1, 1, none⟩ (.int .i64 z.d)).setCell ⟨w.heap.size + 1, 2, none⟩ (.int .i64 z.s)).setCell ⟨w.heap.size + 1, 3, none⟩ (.int .i64 z.i)) = w3 at *
    with_reducible refine Q.mono ?_
    rintro e w4 ⟨v4, rfl, hd4, be4, ho4⟩
    have V4 := V3.out.next be4
    obtain ⟨g0, g1, g2, g3, gz0, gz1, gz2, gz3, _⟩ := cells4 V4.c
    have V5 := Lib.hid (V4.store2 z)
    have PLq := (HH.out.next (below_set4 (HB3.out.trans (be4.mono HB3.out.size)) (show w.heap.size ≤ w.heap.size + 1 + 1 by omega) (.int .i64 z.b) (.int .i64 z.d) (.int .i64 z.s) (.int .i64 z.i)))
    rw [HN.out] at PLq
    have PL := Lib.hid PLq
    clear hd4 ho4 PLq
    have FT := V5.out.two
    have F7 := Lib.hid (FT.next (Below.refl _ _).drew)
    have OX := of_any z
    unfold entV at OX
    clear FT V4 be4 Q V3 V5 HB3
    go_wp2
    generalize ((((w4.setCell ⟨w.heap.size + 1 + 1, 0, none⟩ (.int .i64 z.b)).setCell ⟨w.heap.size + 1 + 1, 1, none⟩ (.int .i64 z.d)).setCell ⟨w.heap.size + 1 + 1, 2, none⟩ (.int .i64 z.s)).setCell ⟨w.heap.size + 1 + 1, 3, none⟩ (.int .i64 z.i)) = w5 at *
    go_region_held3 (fun w' => w'.cell? ⟨w.heap.size + 1, 0, none⟩ = some (.int .i64 z.b) ∧ w'.cell? ⟨w.heap.size + 1, 1, none⟩ = some (.int .i64 z.d) ∧ w'.cell? ⟨w.heap.size + 1, 2, none⟩ = some (.int .i64 z.s) ∧ w'.cell? ⟨w.heap.size + 1, 3, none⟩ = some (.int .i64 z.i) ∧ w'.cell? ⟨w.heap.size + 1 + 1, 0, none⟩ = some (.int .i64 z.b) ∧ w'.cell? ⟨w.heap.size + 1 + 1, 1, none⟩ = some (.int .i64 z.d) ∧ w'.cell? ⟨w.heap.size + 1 + 1, 2, none⟩ = some (.int .i64 z.s) ∧ w'.cell? ⟨w.heap.size + 1 + 1, 3, none⟩ = some (.int .i64 z.i)) (exact F7.out.cs)
      (first
        | (go_at_call 7; (with_reducible refine (OX _).mono ?_); rintro e wn ⟨rfl, mo⟩; have F7 := Lib.hid (F7.out.next mo.below); clear mo))
    have FB := Lib.hid F7.out.B
    clear F7
    go_wp2
    go_ret2
    exact ⟨_, _, F, rfl, PL.out.next FB.out⟩
  · have hd : decide (0 < m.length) = false := by exact decide_eq_false (by omega)
    rw [hd] at P
    obtain rfl : n = 0 := by omega
    clear hz h hd hFR hn
    unfold entV at P
    go_enter Try.func12, Try.ntmps12
    go_wp2_with fail
    with_reducible refine P.mono ?_
    rintro e w2 ⟨rfl, be2⟩
    have B2 := HB1.out.trans (be2.mono HB1.out.size)
    have V2 := HV1.out.next be2
    obtain ⟨f0, f1, f2, f3, fz0, fz1, fz2, fz3, _⟩ := cells4 V2.b
    have V3 := Lib.hid (V2.store1 z)
    have B3 := below_set4 B2 (show w.heap.size ≤ w.heap.size + 1 by omega) (.int .i64 z.b) (.int .i64 z.d) (.int .i64 z.s) (.int .i64 z.i)
    have L3 := HH.out.dl.next B3
    have HB3 := Lib.hid B3
    have Q := rpopD (up := true) (by have := HN.out; omega) (.slice p m.length c) _ L3
    rw [HZ.out, HN.out] at Q
    unfold IsOut at Q
    clear be2
    clear B2 B3 V2 L3 P HB1 HV1
    unfold entV at Q
    go_wp2_with fail
    generalize ((((w2.setCell ⟨w.heap.size + 1, 0, none⟩ (.int .i64 z.b)).setCell ⟨w.heap.size + 1, 1, none⟩ (.int .i64 z.d)).setCell ⟨w.heap.size + 1, 2, none⟩ (.int .i64 z.s)).setCell ⟨w.heap.size + 1, 3, none⟩ (.int .i64 z.i)) = w3 at *
    with_reducible refine Q.mono ?_
    rintro e w4 ⟨v4, rfl, hd4, be4, ho4⟩
    have V4 := V3.out.next be4
    obtain ⟨g0, g1, g2, g3, gz0, gz1, gz2, gz3, _⟩ := cells4 V4.c
    have V5 := Lib.hid (V4.store2 z)
    have PLq := (HH.out.next (below_set4 (HB3.out.trans (be4.mono HB3.out.size)) (show w.heap.size ≤ w.heap.size + 1 + 1 by omega) (.int .i64 z.b) (.int .i64 z.d) (.int .i64 z.s) (.int .i64 z.i)))
    rw [HN.out] at PLq
    have PL := Lib.hid PLq
    clear hd4 ho4 PLq
    have FT := V5.out.two
    have F7 := Lib.hid (FT.next (Below.refl _ _).drew)
    have OX := of_any z
    unfold entV at OX
    clear FT V4 be4 Q V3 V5 HB3
    go_wp2
    generalize ((((w4.setCell ⟨w.heap.size + 1 + 1, 0, none⟩ (.int .i64 z.b)).setCell ⟨w.heap.size + 1 + 1, 1, none⟩ (.int .i64 z.d)).setCell ⟨w.heap.size + 1 + 1, 2, none⟩ (.int .i64 z.s)).setCell ⟨w.heap.size + 1 + 1, 3, none⟩ (.int .i64 z.i)) = w5 at *
    go_region_held3 (fun w' => w'.cell? ⟨w.heap.size + 1, 0, none⟩ = some (.int .i64 z.b) ∧ w'.cell? ⟨w.heap.size + 1, 1, none⟩ = some (.int .i64 z.d) ∧ w'.cell? ⟨w.heap.size + 1, 2, none⟩ = some (.int .i64 z.s) ∧ w'.cell? ⟨w.heap.size + 1, 3, none⟩ = some (.int .i64 z.i) ∧ w'.cell? ⟨w.heap.size + 1 + 1, 0, none⟩ = some (.int .i64 z.b) ∧ w'.cell? ⟨w.heap.size + 1 + 1, 1, none⟩ = some (.int .i64 z.d) ∧ w'.cell? ⟨w.heap.size + 1 + 1, 2, none⟩ = some (.int .i64 z.s) ∧ w'.cell? ⟨w.heap.size + 1 + 1, 3, none⟩ = some (.int .i64 z.i)) (exact F7.out.cs)
      (first
        | (go_at_call 7; (with_reducible refine (OX _).mono ?_); rintro e wn ⟨rfl, mo⟩; have F7 := Lib.hid (F7.out.next mo.below); clear mo))
    have FB := Lib.hid F7.out.B
    clear F7
    go_wp2
    go_ret2
    exact ⟨_, _, F, rfl, PL.out.next FB.out⟩

set_option maxHeartbeats 8000000 in
theorem doesFull (w0 w : World) (db : Nat) (k : Bool) (m : List En) (v : Value) (F : Nat → Prop) (o : Int) (x : En) (N : Int) (h : Ply w0 db k m v F w) (hf : m.length = 25) (hop : max 0 o % 8 = 0 ∨ max 0 o % 8 = 1) : Calls Try.prog 12 #[.pointer (some ⟨db, 0, none⟩), v, actV o x N, .int .i64 25] w (DoesOk w0 db k) := by
  unfold actV
  obtain ⟨p, c, rfl⟩ := doc_slice h.dl
  have HH := Lib.hid h
  have hFR : ∀ b, F b → b < w.heap.size := h.de.lt
  have HFR := Lib.hid hFR
  have HB1 := Lib.hid (below3 w o x N)
  have HV1 := Lib.hid (Vars.start w o x N)
  have OX := of_any x
  have P := fun W (b : Below w.heap.size w W) => pushD_full x W (h.de.next b) (by decide) (by decide) (by omega) (by omega)
  have HPL := Lib.hid (fun W (b : Below w.heap.size w W) => show Ply w0 db k m (.slice p 25 c) F W by have q := h.next b; rw [hf] at q; exact q)
  rw [hf]
  clear h hFR hf
  unfold entV at OX P
  rw [show ((25 : Nat)) = 25 from rfl]
  rcases hop with hop | hop
  all_goals
    go_enter Try.func12, Try.ntmps12
    go_wp2_with fail
    with_reducible refine (OX _).mono ?_
    rintro e w1 ⟨rfl, m1⟩
    have B1 := HB1.out.trans (m1.below.mono HB1.out.size)
    have PU := P _ B1
    have HB2 := Lib.hid B1
    clear m1 B1 OX HB1 HV1
    go_wp2_with fail
    with_reducible refine PU.mono ?_
    rintro e w2 ⟨rfl, be2⟩
    have PL := HPL.out _ (HB2.out.trans (be2.mono HB2.out.size))
    have HP := Lib.hid PL
    clear be2 PL PU P HB2
    go_wp2
    go_ret2
    exact ⟨_, _, F, rfl, HP.out⟩
set_option maxHeartbeats 8000000 in
theorem doesPush (w0 w : World) (db : Nat) (k : Bool) (m : List En) (v : Value) (F : Nat → Prop) (o : Int) (x : En) (N : Int) (h : Ply w0 db k m v F w) (hf : m.length < 25) (hop : max 0 o % 8 = 0 ∨ max 0 o % 8 = 1) : Calls Try.prog 12 #[.pointer (some ⟨db, 0, none⟩), v, actV o x N, .int .i64 25] w (DoesOk w0 db k) := by
  unfold actV
  obtain ⟨p, c, rfl⟩ := doc_slice h.dl
  have HH := Lib.hid h
  have hFR : ∀ b, F b → b < w.heap.size := h.de.lt
  have HFR := Lib.hid hFR
  have HB1 := Lib.hid (below3 w o x N)
  have HV1 := Lib.hid (Vars.start w o x N)
  have OX := of_any x
  have P := fun W (b : Below w.heap.size w W) => pushD_ok x W (h.de.next b) (by decide) (by decide) (by omega) (by omega)
  have HPL := Lib.hid (fun W (b : Below w.heap.size w W) => h.next b)
  have HIS := Lib.hid (ins_srt x h.st)
  obtain ⟨n, hn⟩ : ∃ n, m.length = n := ⟨_, rfl⟩
  have HN := Lib.hid hn
  have e0 : ((n : Int) == 25) = false := by simp; omega
  have hn24 : n < 25 := by omega
  rw [hn]
  clear h hFR hf hn
  unfold entV at OX P
  rcases hop with hop | hop
  all_goals
    go_enter Try.func12, Try.ntmps12
    go_wp2_with fail
    with_reducible refine (OX _).mono ?_
    rintro e w1 ⟨rfl, m1⟩
    have B1 := HB1.out.trans (m1.below.mono HB1.out.size)
    have PU := P _ B1
    unfold PushOk at PU
    have HB2 := Lib.hid B1
    have V1 := Lib.hid (HV1.out.next m1.below)
    clear m1 B1 OX HB1 HV1 P
    go_wp2_with fail
    with_reducible refine PU.mono ?_
    rintro e w2 ⟨F', rfl, hd2, hk2, hf2⟩
    have P1 := HPL.out _ HB2.out
    have L2 := P1.doc_kept hk2
    have V2 := V1.out.kept hk2 HFR.out
    obtain ⟨b0, b1, b2, b3, b4, b5⟩ := V2.cells
    have RP := rpush_any x m (by have := HN.out; omega) _ w2 L2
    rw [HN.out] at RP
    unfold IsPut entV at RP
    have HD2 := Lib.hid hd2
    have HF2 := Lib.hid hf2
    have HBE := Lib.hid (P1.below hk2)
    have HSZ := Lib.hid (show w0.heap.size ≤ w1.heap.size from P1.be.size)
    have HGE := Lib.hid P1.ge
    clear hd2 hk2 hf2 P1 L2 V2 PU
    go_wp2_with fail
    with_reducible refine RP.mono ?_
    rintro e w3 ⟨v3, rfl, ho3, be3⟩
    have E : Hid (Ply w0 db k (srt (m ++ [x])) v3 F' w3) := by
      refine Lib.hid ⟨HD2.out.next be3, ?_, fun _ q hq f => ?_, fun b f => ?_, HBE.out.trans (be3.mono HBE.out.size), srt_srt _, by rw [srt_length]; simp; have := HN.out; omega⟩
      · have q := docL_own ho3 rfl
        rw [HIS.out] at q
        exact q
      · have := (ho3.lt q hq).1
        have := HD2.out.lt _ f
        omega
      · rcases HF2.out b f with f' | f'
        · exact HGE.out b f'
        · have := HSZ.out
          omega
    clear ho3 be3 RP HD2 HF2 HBE HSZ HGE
    go_wp2
    go_ret2
    exact ⟨_, _, F', rfl, E.out⟩
set_option maxHeartbeats 8000000 in
theorem doesEvict (w0 w : World) (db : Nat) (k : Bool) (m : List En) (v : Value) (F : Nat → Prop) (o : Int) (x : En) (N : Int) (h : Ply w0 db k m v F w) (hop : max 0 o % 8 = 6) : Calls Try.prog 12 #[.pointer (some ⟨db, 0, none⟩), v, actV o x N, .int .i64 25] w (DoesOk w0 db k) := by
  unfold actV
  obtain ⟨p, c, rfl⟩ := doc_slice h.dl
  have HH := Lib.hid h
  have hFR : ∀ b, F b → b < w.heap.size := h.de.lt
  have HFR := Lib.hid hFR
  have HB1 := Lib.hid (below3 w o x N)
  have HV1 := Lib.hid (Vars.start w o x N)
  have hlen := h.len
  have DC := lastD_any m (min N 100) (by omega) (by omega) _ _ (h.dl.next (below3 w o x N))
  have P := fun W (hd : De W F db k m 25) => evict_any N W (by omega) hd
  have HPL := Lib.hid (fun W (b : Below w.heap.size w W) => h.next b)
  rw [show (min (min N 100) (m.length : Int)).toNat = (min N (m.length : Int)).toNat by omega] at DC
  obtain ⟨c', hc'⟩ : ∃ c', (min N (m.length : Int)).toNat = c' := ⟨_, rfl⟩
  rw [hc'] at DC P
  have hcm : c' ≤ m.length := by rw [← hc']; omega
  have HOL := Lib.hid (evO_le hcm)
  have HSL := Lib.hid (h.st.left c')
  have HLL : Hid ((evL m c').length ≤ 25) := Lib.hid (by rw [evL_length]; omega)
  have HLP : Hid (0 < (evL m c').length → 0 < m.length) := Lib.hid (fun q => by rw [evL_length] at q; omega)
  have HCM : Hid (c' ≤ 25) := Lib.hid (by omega)
  unfold LastOk at DC
  unfold EvictOk at P
  have HQ := Lib.hid (fun W (b : Below w.heap.size w W) (q : Nat) => h.sep)
  obtain ⟨n, hn⟩ : ∃ n, m.length = n := ⟨_, rfl⟩
  have HN := Lib.hid hn
  rw [hn] at DC ⊢
  clear h hFR hn hlen hc' hcm
  go_enter Try.func12, Try.ntmps12
  go_wp2_with fail
  with_reducible refine DC.mono ?_
  rintro e w1 ⟨v1, v2, rfl, hd1, hd2, be1, hq1, hq2⟩
  have V1 := HV1.out.next be1
  obtain ⟨b0, b1, b2, b3, b4, b5⟩ := V1.cells
  have P1 := HPL.out _ (HB1.out.trans (be1.mono HB1.out.size))
  have EV := P w1 P1.de
  have HP1 := Lib.hid P1
  have HD1 := Lib.hid hd1
  have HD2 := Lib.hid hd2
  have HQ1 := Lib.hid hq1
  have HQ2 := Lib.hid hq2
  have HS1 := Lib.hid be1.size
  clear hd1 hd2 be1 hq1 hq2 V1 P1 DC P
  go_wp2_with fail
  with_reducible refine EV.mono ?_
  rintro e w2 ⟨v3, rfl, ho3, hd3, hk3⟩
  have D1 : DocL w2 v1 (evL m c') := HD1.out.keptB fun h0 q hq => hk3.block q (HD1.out.lt h0 q hq) (HP1.out.sep (HLP.out h0) q (by have := HQ1.out q hq; rwa [← HN.out] at this))
  have D2 : DocL w2 v2 (evO m c') := HD2.out.keptB fun h0 q hq => hk3.block q (HD2.out.lt h0 q hq) (fun f => by have := HFR.out q f; have := HQ2.out q hq; have := HB1.out.size; omega)
  have SM := same_any (evO m c') c' (by exact HOL.out) (by have := HCM.out; omega) w1.heap.size v3 v2 w2 ho3 D2
  have PL := Lib.hid (HP1.out.turn hd3 hk3 D1 (fun h0 q hq => HP1.out.sep (HLP.out h0) q (by have := HQ1.out q hq; rwa [← HN.out] at this)) HSL.out HLL.out)
  clear ho3 hd3 hk3 D1 D2 EV
  go_wp2_with fail
  with_reducible refine SM.mono ?_
  rintro e w3 ⟨rfl, be3⟩
  have PL2 := Lib.hid (PL.out.next be3)
  clear be3 SM PL
  go_wp2
  go_ret2
  exact ⟨_, _, F, rfl, PL2.out⟩
set_option maxHeartbeats 8000000 in
theorem doesDrop (w0 w : World) (db : Nat) (k : Bool) (m : List En) (v : Value) (F : Nat → Prop) (o : Int) (x : En) (N : Int) (h : Ply w0 db k m v F w) (hop : max 0 o % 8 = 7) : Calls Try.prog 12 #[.pointer (some ⟨db, 0, none⟩), v, actV o x N, .int .i64 25] w (DoesOk w0 db k) := by
  unfold actV
  obtain ⟨p, c, rfl⟩ := doc_slice h.dl
  have HH := Lib.hid h
  have hFR : ∀ b, F b → b < w.heap.size := h.de.lt
  have HFR := Lib.hid hFR
  have HB1 := Lib.hid (below3 w o x N)
  have HV1 := Lib.hid (Vars.start w o x N)
  have hlen := h.len
  have DC := cut_any m x.b (by omega) h.st _ _ (h.dl.next (below3 w o x N))
  have P := fun W (hd : De W F db k m 25) => drop_any x.b W (by omega) hd
  have HPL := Lib.hid (fun W (b : Below w.heap.size w W) => h.next b)
  skip
  obtain ⟨c', hc'⟩ : ∃ c', cutN m x.b = c' := ⟨_, rfl⟩
  rw [hc'] at DC P
  have hcm : c' ≤ m.length := by rw [← hc']; exact cutN_le m x.b
  have HOL := Lib.hid (evO_le hcm)
  have HSL := Lib.hid (h.st.left c')
  have HLL : Hid ((evL m c').length ≤ 25) := Lib.hid (by rw [evL_length]; omega)
  have HLP : Hid (0 < (evL m c').length → 0 < m.length) := Lib.hid (fun q => by rw [evL_length] at q; omega)
  have HCM : Hid (c' ≤ 25) := Lib.hid (by omega)
  unfold CutOk at DC
  unfold DropOk at P
  have HQ := Lib.hid (fun W (b : Below w.heap.size w W) (q : Nat) => h.sep)
  obtain ⟨n, hn⟩ : ∃ n, m.length = n := ⟨_, rfl⟩
  have HN := Lib.hid hn
  rw [hn] at DC ⊢
  clear h hFR hn hlen hc' hcm
  go_enter Try.func12, Try.ntmps12
  go_wp2_with fail
  with_reducible refine DC.mono ?_
  rintro e w1 ⟨v1, v2, rfl, hd1, hd2, be1, hq1, hq2⟩
  have V1 := HV1.out.next be1
  obtain ⟨b0, b1, b2, b3, b4, b5⟩ := V1.cells
  have P1 := HPL.out _ (HB1.out.trans (be1.mono HB1.out.size))
  have EV := P w1 P1.de
  have HP1 := Lib.hid P1
  have HD1 := Lib.hid hd1
  have HD2 := Lib.hid hd2
  have HQ1 := Lib.hid hq1
  have HQ2 := Lib.hid hq2
  have HS1 := Lib.hid be1.size
  clear hd1 hd2 be1 hq1 hq2 V1 P1 DC P
  go_wp2_with fail
  with_reducible refine EV.mono ?_
  rintro e w2 ⟨v3, rfl, ho3, hd3, hk3⟩
  have D1 : DocL w2 v1 (evL m c') := HD1.out.keptB fun h0 q hq => hk3.block q (HD1.out.lt h0 q hq) (HP1.out.sep (HLP.out h0) q (by have := HQ1.out q hq; rwa [← HN.out] at this))
  have D2 : DocL w2 v2 ((evO m c').reverse) := HD2.out.keptB fun h0 q hq => hk3.block q (HD2.out.lt h0 q hq) (HP1.out.sep (by have := HOL.out; rw [List.length_reverse] at h0; rw [this] at h0; have := HN.out; have := evO_length m c'; omega) q (by have := HQ2.out q hq; rwa [← HN.out] at this))
  have SM := same_any ((evO m c').reverse) c' (by rw [List.length_reverse]; exact HOL.out) (by have := HCM.out; omega) w1.heap.size v3 v2 w2 ho3 D2
  have PL := Lib.hid (HP1.out.turn hd3 hk3 D1 (fun h0 q hq => HP1.out.sep (HLP.out h0) q (by have := HQ1.out q hq; rwa [← HN.out] at this)) HSL.out HLL.out)
  clear ho3 hd3 hk3 D1 D2 EV
  go_wp2_with fail
  with_reducible refine SM.mono ?_
  rintro e w3 ⟨rfl, be3⟩
  have PL2 := Lib.hid (PL.out.next be3)
  clear be3 SM PL
  go_wp2
  go_ret2
  exact ⟨_, _, F, rfl, PL2.out⟩
end Go.Proofs.Ytiighhcilgjebaa
