/-
  What package ratio's between and Simplest do.
-/
import Derived.Test.YtjaabjehegcnaaaDoorRatioWalks4
import Derived.Test.YtjaabjehegcnaaaDoorBetweenMath
namespace Go.Proofs.YtjaabjehegcnaaaDoor
set_option maxRecDepth 100000
open Go.RowKit

theorem btw_in {f : Nat} {an ad bn bd : Int} (h : Fits an ad bn bd) (hf : ad + bd ≤ f) (ia : I64 an) (id : I64 ad) : I64 (btw f an ad bn bd).1 ∧ I64 (btw f an ad bn bd).2 ∧ (btw f an ad bn bd).1 ≤ an ∧ (btw f an ad bn bd).2 ≤ ad := by
  have s := btw_simple f an ad bn bd h hf
  obtain ⟨u1, u2⟩ := s.least an ad h.ad0 (Int.le_refl _) h.le
  have n0 := s.n0
  obtain ⟨d0, _⟩ := good_out s.good
  unfold I64 at *
  omega

/-- Behind the call, where the variable for its answer is made later, or was made ahead of it. -/
structure Late (w : World) (an ad bn bd : Int) (w1 : World) : Prop where
  mk ::
  A : Duo w.heap.size an ad bn bd w1
  B : Below w.heap.size w w1
structure Early (w : World) (n : Nat) (an ad bn bd : Int) (w1 : World) : Prop where
  mk ::
  A : Duo w.heap.size an ad bn bd w1
  I : RBox n 0 0 w1
  B : Below w.heap.size w w1
theorem RBox.other {n m : Nat} {a b : Int} {w : World} (h : RBox n a b w) (hne : n ≠ m) (u v : Value) : RBox n a b ((w.setCell ⟨m, 0, none⟩ u).setCell ⟨m, 1, none⟩ v) := by
  have hb : ((w.setCell ⟨m, 0, none⟩ u).setCell ⟨m, 1, none⟩ v).heap[n]? = w.heap[n]? := by
    rw [Below.heap_setCell _ _ _ _ hne, Below.heap_setCell _ _ _ _ hne]
  refine ⟨?_, ?_, ?_, ?_, by simpa [World.setCell] using h.size⟩
  · rw [World.cell?_of_block (w := w) (a := ⟨n, 0, none⟩) hb]; exact h.c0
  · rw [World.cell?_of_block (w := w) (a := ⟨n, 1, none⟩) hb]; exact h.c1
  · rw [World.frozen?_of_block (w := w) (a := ⟨n, 0, none⟩) hb]; exact h.f0
  · rw [World.frozen?_of_block (w := w) (a := ⟨n, 1, none⟩) hb]; exact h.f1
theorem four_box (w : World) (o1 o2 o3 : Obj) (a b : Int) (t : TypeId) : RBox (w.heap.size + 3) a b ((((w.alloc o1).alloc o2).alloc o3).alloc (.cells #[.int .i64 a, .int .i64 b] t)) :=
  ⟨by simp [go_sem], by simp [go_sem], by simp [go_sem], by simp [go_sem], by simp⟩
theorem Duo.other {n m : Nat} {a b c d : Int} {w : World} (h : Duo n a b c d w) (hm : n + 2 < m) (u v : Value) : Duo n a b c d ((w.setCell ⟨m, 0, none⟩ u).setCell ⟨m, 1, none⟩ v) :=
  ⟨h.A.other (by omega) u v, h.B.other (by omega) u v, h.R.other (by omega) u v⟩

set_option maxHeartbeats 2000000 in
theorem between_any : ∀ (f : Nat) (an ad bn bd : Int), Fits an ad bn bd → ad + bd ≤ f → I64 an → I64 ad → I64 bn → I64 bd → ∀ w : World,
    Calls Tryd.prog 59 #[.agg #[.int .i64 an, .int .i64 ad], .agg #[.int .i64 bn, .int .i64 bd]] w fun e w' => e = .returned (.agg #[.int .i64 (btw f an ad bn bd).1, .int .i64 (btw f an ad bn bd).2]) ∧ Below w.heap.size w w' := by
  intro f
  induction f with
  | zero => intro an ad bn bd h h1; have := h.ad0; have := h.bd0; omega
  | succ f ih =>
    intro an ad bn bd h hf ia id ib ie w
    have a0 := h.a0
    have b0 := h.b0
    have ad0 := h.ad0
    have bd0 := h.bd0
    obtain ⟨ia0, ia1⟩ := ia
    obtain ⟨id0, id1⟩ := id
    obtain ⟨ib0, ib1⟩ := ib
    obtain ⟨ie0, ie1⟩ := ie
    by_cases h1 : ad = 1
    · have e1 : btw (f + 1) an ad bn bd = (an, ad) := by unfold btw; rw [if_pos h1]
      have t1 : (ad == 1) = true := by simp [h1]
      rw [e1]
      clear h1 e1 ih h hf
      go_enter Tryd.func59, Tryd.ntmps59
      go_wp2
      exact bodyPost_ret (v := .agg #[.int .i64 an, .int .i64 ad]) (by simp [results, Tryd.results59, go_sem]) rfl ⟨rfl, three_new w _ _ _⟩
    · have t1 : (ad == 1) = false := by simp [h1]
      have d2 : 2 ≤ ad := by omega
      have q0 : 0 ≤ an / ad := Int.ediv_nonneg (by omega) (by omega)
      have q2 : an / ad * ad ≤ an := Int.ediv_mul_le an (by omega)
      have q3 : an / ad * 2 ≤ an / ad * ad := Int.mul_le_mul_of_nonneg_left d2 q0
      have q1 : an / ad + 1 ≤ an := by omega
      have q4 : an / ad + 1 ≤ 9223372036854775807 := by omega
      have p0 : 0 ≤ bn / bd := Int.ediv_nonneg (by omega) (by omega)
      by_cases h2 : an / ad < bn / bd
      · have e1 : btw (f + 1) an ad bn bd = (an / ad + 1, 1) := by unfold btw; rw [if_neg h1, if_pos h2]
        rw [e1]
        clear h1 e1 ih h hf q2 q3 q1
        go_enter Tryd.func59, Tryd.ntmps59
        go_wp2_with fail
        with_reducible refine (of_ratio _ _).mono ?_
        rintro e w1 ⟨rfl, b1⟩
        have D1 := (duo_new w an ad bn bd 23).next b1
        have B1 : Below w.heap.size w w1 := on (three_new w _ _ _) b1
        clear b1
        obtain ⟨⟨x0, x1, x2, x3, x4⟩, ⟨c0, c1, c2, c3, c4⟩, ⟨r0, r1, r2, r3, r4⟩⟩ := D1
        go_wp2
        exact bodyPost_ret (v := .agg #[.int .i64 (an / ad + 1), .int .i64 1]) (by simp [results, Tryd.results59, go_sem, r0, r1]) rfl ⟨rfl, (B1.setCell (by show w.heap.size ≤ w.heap.size + 2; omega) _).setCell (by show w.heap.size ≤ w.heap.size + 2; omega) _⟩
      · obtain ⟨hwe, m1, m2, hT⟩ := h.turn h1 h2
        have n1 := Int.emod_lt_of_pos an ad0
        have n2 := Int.emod_lt_of_pos bn bd0
        have I := ih bd (bn % bd) ad (an % ad) hT (by omega) ⟨by omega, ie1⟩ ⟨by omega, by omega⟩ ⟨by omega, id1⟩ ⟨by omega, by omega⟩
        have s1 := btw_simple f bd (bn % bd) ad (an % ad) hT (by omega)
        have s2 := btw_simple (f + 1) an ad bn bd h (by omega)
        have u := (s2.least an ad ad0 (Int.le_refl _) h.le).1
        have e1 : btw (f + 1) an ad bn bd = ((an / ad) * (btw f bd (bn % bd) ad (an % ad)).1 + (btw f bd (bn % bd) ad (an % ad)).2, (btw f bd (bn % bd) ad (an % ad)).1) := by
          conv => lhs; unfold btw
          rw [if_neg h1, if_neg h2]
        rw [e1] at u ⊢
        have v1 := s1.n0
        have v2 := (good_out s1.good).1
        generalize (btw f bd (bn % bd) ad (an % ad)).1 = r at *
        generalize (btw f bd (bn % bd) ad (an % ad)).2 = s at *
        have v3 := Int.mul_nonneg q0 (show 0 ≤ r by omega)
        have v4 : an / ad * r ≤ 9223372036854775807 := by simp only at u; omega
        have v5 : an / ad * r + s ≤ 9223372036854775807 := by simp only at u; omega
        have h2' : decide (an / ad < bn / bd) = false := by simpa using h2
        have T1 : bn.tmod bd = bn % bd := Int.tmod_eq_emod_of_nonneg (by omega)
        have T2 : an.tmod ad = an % ad := Int.tmod_eq_emod_of_nonneg (by omega)
        have W1 := kwrap_in (x := bn % bd) ⟨by omega, by omega⟩
        have W2 := kwrap_in (x := an % ad) ⟨by omega, by omega⟩
        generalize bn % bd = rb at *
        generalize an % ad = ra at *
        have ne1 : ¬ bd = 0 := by omega
        have ne2 : ¬ ad = 0 := by omega
        clear h1 h2 e1 ih h hf q2 q3 q1 hT s1 s2 u hwe
        go_enter Tryd.func59, Tryd.ntmps59
        go_wp2
        go_region_held3 (fun w' => w'.cell? ⟨w.heap.size, 0, none⟩ = some (.int .i64 an) ∧ w'.cell? ⟨w.heap.size, 1, none⟩ = some (.int .i64 ad) ∧ w'.cell? ⟨w.heap.size + 1, 0, none⟩ = some (.int .i64 bn) ∧ w'.cell? ⟨w.heap.size + 1, 1, none⟩ = some (.int .i64 bd))
          (first | exact (duo_new w an ad bn bd 23).drew.out | exact ((duo_new w an ad bn bd 23).next (new_below _ _)).drew.out | exact H1.out.A.out | exact (H1.out.A.next (new_below w1 _)).out | exact (H1.out.A.other (by omega) _ _).out | exact (H1.out.A.other (by simp) _ _).out)
          (first
            | (go_at_call 59; (with_reducible refine (I _).mono ?_); rintro e w1 ⟨rfl, b1⟩; first | have H1 := Lib.hid (Late.mk ((duo_new w an ad bn bd 23).drew.next b1) (on (three_new w _ _ _).drew b1)) | (have H1 := Lib.hid (Early.mk (((duo_new w an ad bn bd 23).next (new_below _ (.cells #[.int .i64 0, .int .i64 0] 23))).drew.next b1) ((four_box w _ _ _ 0 0 23).next ((Below.refl _ _).drew) |>.next b1) (on (on (three_new w _ _ _) (new_below _ _)).drew b1)); (obtain ⟨i0, i1, i2, i3, i4⟩ := H1.out.I))))
        · have HB := Lib.hid H1.out.B
          have HR := H1.out.A.R
          obtain ⟨r0, r1, r2, r3, r4⟩ := HR
          clear H1 b1
          go_wp2
          exact bodyPost_ret (v := .agg #[.int .i64 (an / ad * r + s), .int .i64 r]) (by simp [results, Tryd.results59, go_sem, r0, r1, r4]) rfl ⟨rfl, ((HB.out.setCell (by show w.heap.size ≤ w.heap.size + 2; omega) _).setCell (by show w.heap.size ≤ w.heap.size + 2; omega) _).alloc (by have := HB.out.size; simp [World.setCell]; omega) _⟩
        · have HA := H1.out.A
          have HB := Lib.hid H1.out.B
          obtain ⟨⟨x0, x1, x2, x3, x4⟩, ⟨c0, c1, c2, c3, c4⟩, ⟨r0, r1, r2, r3, r4⟩⟩ := HA
          clear H1 b1
          go_wp2
          exact bodyPost_ret (v := .agg #[.int .i64 (an / ad * r + s), .int .i64 r]) (by simp [results, Tryd.results59, go_sem, r0, r1]) rfl ⟨rfl, (((HB.out.setCell (by show w.heap.size ≤ w.heap.size + 3; omega) _).setCell (by show w.heap.size ≤ w.heap.size + 3; omega) _).setCell (by show w.heap.size ≤ w.heap.size + 2; omega) _).setCell (by show w.heap.size ≤ w.heap.size + 2; omega) _⟩

/-! ### Simplest -/
/-- The fuel is enough for whatever Dens. -/
def fuelOf (ad bd : Int) : Nat := (ad + bd).toNat
theorem fuel_ok (ad bd : Int) : ad + bd ≤ fuelOf ad bd := by unfold fuelOf; omega
def smpB (a b c d : Int) : Bool := goodB a b && goodB c d && decide (rcm a b c d ≤ 0) && (decide (0 < a) || decide (0 ≤ c) || (fitB (-a) && fitB (-c)))
def smpN (a b c d : Int) : Int := if smpB a b c d = true then (if 0 < a then (btw (fuelOf b d) a b c d).1 else if 0 ≤ c then 0 else -(btw (fuelOf d b) (-c) d (-a) b).1) else 0
def smpD (a b c d : Int) : Int := if smpB a b c d = true then (if 0 < a then (btw (fuelOf b d) a b c d).2 else if 0 ≤ c then 1 else (btw (fuelOf d b) (-c) d (-a) b).2) else 0
theorem smp_no {a b c d : Int} (h : smpB a b c d = false) : smpN a b c d = 0 ∧ smpD a b c d = 0 := by unfold smpN smpD; rw [h]; simp

theorem rcm_le {a b c d : Int} (h1 : goodB a b = true) (h2 : goodB c d = true) (h : rcm a b c d ≤ 0) : a * d ≤ c * b := by
  unfold rcm at h
  rw [if_pos ⟨h1, h2⟩] at h
  unfold cmp3 at h
  (repeat' split at h) <;> omega
theorem fits_up {a b c d : Int} (h1 : goodB a b = true) (h2 : goodB c d = true) (h : rcm a b c d ≤ 0) (ha : 0 < a) : Fits a b c d := by
  have hl := rcm_le h1 h2 h
  refine ⟨ha, ?_, h1, h2, hl⟩
  refine Int.not_le.1 fun hc => ?_
  have := Int.mul_pos ha (good_out h2).1
  have := Int.mul_le_mul_of_nonneg_right hc (show 0 ≤ b by have := (good_out h1).1; omega)
  omega
theorem fits_down {a b c d : Int} (h1 : goodB a b = true) (h2 : goodB c d = true) (h : rcm a b c d ≤ 0) (hc : c < 0) : Fits (-c) d (-a) b := by
  have hl := rcm_le h1 h2 h
  refine ⟨by omega, ?_, by rw [good_neg]; exact h2, by rw [good_neg]; exact h1, by rw [Int.neg_mul, Int.neg_mul]; omega⟩
  refine Int.not_le.1 fun ha => ?_
  have h3 : c * b < 0 := by
    have := Int.mul_pos (show 0 < -c by omega) (good_out h1).1
    rw [Int.neg_mul] at this
    omega
  have := Int.mul_nonneg (show 0 ≤ a by omega) (show 0 ≤ d by have := (good_out h2).1; omega)
  omega
end Go.Proofs.YtjaabjehegcnaaaDoor
