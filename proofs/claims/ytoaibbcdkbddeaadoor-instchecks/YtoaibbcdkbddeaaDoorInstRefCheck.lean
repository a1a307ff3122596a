/-
  What the document's Check and N do (layer 9). Written by tools/genrefcheck.py.
-/
import Derived.Test.YtoaibbcdkbddeaaDoorInstRefEarly
import Derived.Test.YtoaibbcdkbddeaaDoorInstRefFull
namespace Go.Proofs.YtoaibbcdkbddeaaDoor
set_option maxRecDepth 100000
open Go.RowKit


theorem others_iff (I : In) : I.others = true ↔ ((I.kind = 0 ∧ (0 < I.cost.length ∨ (¬ I.size = 0 ∨ 0 < I.sets.length))) ∨ (I.kind = 3 ∧ ((¬ I.cap = 0 ∨ 0 < I.items.length) ∨ 0 < I.cost.length))) ∨ (¬ I.kind = 0 ∧ (¬ I.kind = 3 ∧ ((¬ I.cap = 0 ∨ 0 < I.items.length) ∨ (¬ I.size = 0 ∨ 0 < I.sets.length)))) := by
  unfold In.others In.kn In.sq In.cv
  simp only [Bool.or_eq_true, Bool.and_eq_true, decide_eq_true_eq]
theorem sized_iff (I : In) : I.sized = true ↔ ((((I.items.length ≤ 4096 ∧ I.cost.length ≤ 64) ∧ (1 ≤ I.cost.length ∨ (¬ I.kind = 1 ∧ ¬ I.kind = 2))) ∧ 0 ≤ I.size) ∧ I.size ≤ 4096) ∧ I.sets.length ≤ 4096 := by
  unfold In.sized
  simp only [Bool.or_eq_true, Bool.and_eq_true, decide_eq_true_eq, Bool.not_eq_true', Bool.or_eq_false_iff, decide_eq_false_iff_not]
theorem chk_rest {I : In} (h1 : 0 ≤ I.kind) (h2 : I.kind ≤ 3) (h3 : I.others = false) (h4 : I.sized = true) : I.chk = rest I := by unfold In.chk rest; rw [if_neg (by omega), if_neg (by simp [h3]), if_neg (by simp [h4])]
theorem chk_good {I : In} (h : I.chk = 0) : 0 ≤ I.kind ∧ I.kind ≤ 3 ∧ I.others = false ∧ I.sized = true := by
  unfold In.chk at h
  split at h
  · omega
  · split at h
    · omega
    · split at h
      · omega
      · rename_i h1 h2 h3
        exact ⟨by omega, by omega, by simpa using h2, by simpa using h3⟩
theorem not_true {b : Bool} (h : ¬ b = true) : b = false := by simpa using h

theorem rcheck_any (F G : Nat → Prop) (I : In) (v : Value) (w : World) (h : Ins F G w v I) :
    Calls Tryd.prog 10 #[v] w fun e w' => e = .returned (.int .i64 I.chk) ∧ Below w.heap.size w w' := by
  obtain ⟨vi, vc, vs, uc, us, rfl, hi, hc, hs⟩ := h.form
  obtain ⟨A0, C0, rfl, _, _⟩ := hi.form
  obtain ⟨A, C, rfl, _, _⟩ := hc.form
  obtain ⟨A2, C2, rfl, _, _⟩ := hs.form
  have OI := others_iff I
  have SI := sized_iff I
  by_cases hneg : I.kind < 0
  · rw [In.chk_kind (.inl hneg)]
    exact rc_neg _ _ _ _ _ _ _ _ _ _ _ _ _ hneg
  by_cases hbig : 3 < I.kind
  · rw [In.chk_kind (.inr hbig)]
    exact rc_big _ _ _ _ _ _ _ _ _ _ _ _ _ hneg hbig
  have k1 : 0 ≤ I.kind := by omega
  have k2 : I.kind ≤ 3 := by omega
  by_cases hK0 : I.kind = 0
  · by_cases z2 : I.cost.length = 0
    · by_cases z4 : I.size = 0
      · by_cases z3 : I.sets.length = 0
        · have ho : I.others = false := not_true fun h => by have := OI.1 h; omega
          by_cases l1 : I.items.length ≤ 4096
          · rw [chk_rest k1 k2 ho (SI.2 (by omega)), hK0, z2, z4, z3]
            rw [z2] at hc
            rw [z3] at hs
            exact rc_full0 F G I _ _ _ _ _ _ uc us w hi hc hs hK0 z4 l1
          · rw [In.chk_sized k1 k2 ho (not_true fun h => by have := SI.1 h; omega), hK0, z2, z4, z3]
            exact rc_k0d _ _ _ _ _ _ _ _ _ (by omega)
        · rw [In.chk_others k1 k2 (OI.2 (by omega)), hK0, z2, z4]
          exact rc_k0c _ _ _ _ _ _ _ _ _ _ (by omega)
      · rw [In.chk_others k1 k2 (OI.2 (by omega)), hK0, z2]
        exact rc_k0b _ _ _ _ _ _ _ _ _ _ _ z4
    · rw [In.chk_others k1 k2 (OI.2 (by omega)), hK0]
      exact rc_k0a _ _ _ _ _ _ _ _ _ _ _ _ (by omega)
  by_cases hK3 : I.kind = 3
  · by_cases z0 : I.cap = 0
    · by_cases z1 : I.items.length = 0
      · by_cases z2 : I.cost.length = 0
        · have ho : I.others = false := not_true fun h => by have := OI.1 h; omega
          by_cases l3 : I.sets.length ≤ 4096
          · by_cases l4 : 0 ≤ I.size
            · by_cases l5 : I.size ≤ 4096
              · rw [chk_rest k1 k2 ho (SI.2 (by omega)), hK3, z0, z1, z2]
                rw [z2] at hc
                rw [z1] at hi
                exact rc_full3 F G I _ _ _ _ _ _ uc us w hi hc hs hK3 z0 l3 l4 l5
              · rw [In.chk_sized k1 k2 ho (not_true fun h => by have := SI.1 h; omega), hK3, z0, z1, z2]
                exact rc_k3f _ _ _ _ _ _ _ _ _ (by omega) (by omega) (by omega)
            · rw [In.chk_sized k1 k2 ho (not_true fun h => by have := SI.1 h; omega), hK3, z0, z1, z2]
              exact rc_k3e _ _ _ _ _ _ _ _ _ (by omega) (by omega)
          · rw [In.chk_sized k1 k2 ho (not_true fun h => by have := SI.1 h; omega), hK3, z0, z1, z2]
            exact rc_k3d _ _ _ _ _ _ _ _ _ (by omega)
        · rw [In.chk_others k1 k2 (OI.2 (by omega)), hK3, z0, z1]
          exact rc_k3c _ _ _ _ _ _ _ _ _ _ (by omega)
      · rw [In.chk_others k1 k2 (OI.2 (by omega)), hK3, z0]
        exact rc_k3b _ _ _ _ _ _ _ _ _ _ _ (by omega)
    · rw [In.chk_others k1 k2 (OI.2 (by omega)), hK3]
      exact rc_k3a _ _ _ _ _ _ _ _ _ _ _ _ z0
  by_cases hK1 : I.kind = 1
  · by_cases z0 : I.cap = 0
    · by_cases z1 : I.items.length = 0
      · by_cases z4 : I.size = 0
        · by_cases z3 : I.sets.length = 0
          · have ho : I.others = false := not_true fun h => by have := OI.1 h; omega
            by_cases l6 : I.cost.length ≤ 64
            · by_cases z2 : I.cost.length = 0
              · rw [In.chk_sized k1 k2 ho (not_true fun h => by have := SI.1 h; omega), hK1, z0, z1, z2, z4, z3]
                exact rc_k1f _ _ _ _ _ _ _
              · rw [chk_rest k1 k2 ho (SI.2 (by omega)), hK1, z0, z1, z4, z3]
                rw [z1] at hi
                rw [z3] at hs
                exact rc_full1 F G I _ _ _ _ _ _ uc us w hi hc hs hK1 z0 z4 (by omega) l6
            · rw [In.chk_sized k1 k2 ho (not_true fun h => by have := SI.1 h; omega), hK1, z0, z1, z4, z3]
              exact rc_k1e _ _ _ _ _ _ _ _ (by omega)
          · rw [In.chk_others k1 k2 (OI.2 (by omega)), hK1, z0, z1, z4]
            exact rc_k1d _ _ _ _ _ _ _ _ _ (by omega)
        · rw [In.chk_others k1 k2 (OI.2 (by omega)), hK1, z0, z1]
          exact rc_k1c _ _ _ _ _ _ _ _ _ _ z4
      · rw [In.chk_others k1 k2 (OI.2 (by omega)), hK1, z0]
        exact rc_k1b _ _ _ _ _ _ _ _ _ _ _ (by omega)
    · rw [In.chk_others k1 k2 (OI.2 (by omega)), hK1]
      exact rc_k1a _ _ _ _ _ _ _ _ _ _ _ _ z0
  have hK2 : I.kind = 2 := by omega
  · by_cases z0 : I.cap = 0
    · by_cases z1 : I.items.length = 0
      · by_cases z4 : I.size = 0
        · by_cases z3 : I.sets.length = 0
          · have ho : I.others = false := not_true fun h => by have := OI.1 h; omega
            by_cases l6 : I.cost.length ≤ 64
            · by_cases z2 : I.cost.length = 0
              · rw [In.chk_sized k1 k2 ho (not_true fun h => by have := SI.1 h; omega), hK2, z0, z1, z2, z4, z3]
                exact rc_k2f _ _ _ _ _ _ _
              · rw [chk_rest k1 k2 ho (SI.2 (by omega)), hK2, z0, z1, z4, z3]
                rw [z1] at hi
                rw [z3] at hs
                exact rc_full2 F G I _ _ _ _ _ _ uc us w hi hc hs hK2 z0 z4 (by omega) l6
            · rw [In.chk_sized k1 k2 ho (not_true fun h => by have := SI.1 h; omega), hK2, z0, z1, z4, z3]
              exact rc_k2e _ _ _ _ _ _ _ _ (by omega)
          · rw [In.chk_others k1 k2 (OI.2 (by omega)), hK2, z0, z1, z4]
            exact rc_k2d _ _ _ _ _ _ _ _ _ (by omega)
        · rw [In.chk_others k1 k2 (OI.2 (by omega)), hK2, z0, z1]
          exact rc_k2c _ _ _ _ _ _ _ _ _ _ z4
      · rw [In.chk_others k1 k2 (OI.2 (by omega)), hK2, z0]
        exact rc_k2b _ _ _ _ _ _ _ _ _ _ _ (by omega)
    · rw [In.chk_others k1 k2 (OI.2 (by omega)), hK2]
      exact rc_k2a _ _ _ _ _ _ _ _ _ _ _ _ z0
/-- Its sum of three lengths. -/
theorem dec_sum {I : In} (h : I.chk = 0) : I.dec = if I.kind = 2 then (I.cost.length : Int) - 1 else (I.items.length : Int) + I.cost.length + I.sets.length := by
  obtain ⟨k1, k2, ho, hz⟩ := chk_good h
  have OI := others_iff I
  rw [ho] at OI
  have SI := (sized_iff I).1 hz
  rw [dec_good h]
  simp only [Bool.false_eq_true, false_iff] at OI
  by_cases h0 : I.kind = 0
  · rw [if_pos h0, if_neg (by omega)]
    omega
  · rw [if_neg h0]
    by_cases h1 : I.kind = 1
    · rw [if_pos h1, if_neg (by omega)]
      omega
    · rw [if_neg h1]
      by_cases h2 : I.kind = 2
      · rw [if_pos h2, if_pos h2]
      · rw [if_neg h2, if_neg h2]
        omega
theorem chk_lens {I : In} (h : I.chk = 0) : I.items.length ≤ 4096 ∧ I.cost.length ≤ 64 ∧ I.sets.length ≤ 4096 ∧ (I.kind = 2 → 1 ≤ I.cost.length) := by
  obtain ⟨k1, k2, ho, hz⟩ := chk_good h
  have SI := (sized_iff I).1 hz
  omega

set_option maxHeartbeats 4000000 in
theorem rN_any (F G : Nat → Prop) (I : In) (v : Value) (w : World) (h : Ins F G w v I) :
    Calls Tryd.prog 12 #[v] w fun e w' => e = .returned (.int .i64 I.dec) ∧ Below w.heap.size w w' := by
  obtain ⟨vi, vc, vs, uc, us, hv, hi, hc, hs⟩ := h.form
  have HL := Ins.lens hi hc hs
  have CH := fun W a => rcheck_any F G I v W a
  subst hv
  obtain ⟨⟨a1, k1, e1⟩, ⟨a2, k2, e2⟩, ⟨a3, k3, e3⟩⟩ := HL
  subst e1 e2 e3
  have nb := new_below w (.cells #[.int .i64 I.kind, .int .i64 I.cap, .slice a1 I.items.length k1, .slice a2 I.cost.length k2, .int .i64 I.size, .slice a3 I.sets.length k3] 36)
  have H1 := Lib.hid (h.next nb)
  have HB1 := Lib.hid nb
  have HX := Lib.hid (ibox_new w (.int .i64 I.kind) (.int .i64 I.cap) (.slice a1 I.items.length k1) (.slice a2 I.cost.length k2) (.int .i64 I.size) (.slice a3 I.sets.length k3) 36)
  have DB := @dec_bad I
  have DG := @dec_sum I
  have CC := @chk_lens I
  generalize I.dec = D at DB DG
  generalize I.chk = T at CH DB DG CC
  have HDB := Lib.hid DB
  have HDG := Lib.hid DG
  have HCC := Lib.hid CC
  clear hi hc hs h nb DB DG CC
  go_enter Tryd.func12, Tryd.ntmps12
  go_wp2_with fail
  with_reducible refine (CH _ H1.out).mono ?_
  rintro e w1 ⟨rfl, b1⟩
  obtain ⟨x0, x1, x2, x3, x4, x5⟩ := HX.out.next b1
  have HB := Lib.hid (on HB1.out b1)
  clear b1 HX HB1 CH H1
  by_cases hT : T = 0
  · have HD := Lib.hid (HDG.out hT)
    obtain ⟨l1, l2, l3, l4⟩ := HCC.out hT
    subst hT
    clear HDB HDG HCC
    by_cases h2 : I.kind = 2
    · have HR : Hid (D = (I.cost.length : Int) - 1) := by show _ = _; rw [HD.out, if_pos h2]
      have l5 := l4 h2
      rw [h2] at x0
      clear h2 l4
      go_wp2
      go_ret
      exact ⟨by rw [HR.out]; rfl, HB.out⟩
    · have HR : Hid (D = (I.items.length : Int) + I.cost.length + I.sets.length) := by show _ = _; rw [HD.out, if_neg h2]
      have e2 : (I.kind == 2) = false := by simpa using h2
      clear h2 l4
      go_wp2
      go_ret
      exact ⟨by rw [HR.out]; rfl, HB.out⟩
  · have HD := Lib.hid (HDB.out hT)
    have e0 : (T == 0) = false := by simpa using hT
    clear hT HDB HDG HCC
    go_wp2
    go_ret
    exact ⟨by rw [HD.out]; rfl, HB.out⟩
end Go.Proofs.YtoaibbcdkbddeaaDoor
