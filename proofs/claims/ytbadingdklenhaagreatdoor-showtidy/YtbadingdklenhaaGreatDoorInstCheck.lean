/-
  What package inst's Check and N do (layer 9).
-/
import Derived.Test.YtbadingdklenhaaGreatDoorInstBound
namespace Go.Proofs.YtbadingdklenhaaGreatDoor
set_option maxRecDepth 100000
open Go.RowKit

theorem Ins.lens {F G : Nat → Prop} {w : World} {I : In} {vi vc vs : Value} {uc us : List Value} (hi : Its F w vi I.items) (hc : Rws F G w vc I.cost uc) (hs : Sts F G w vs I.sets us) : Lens I vi vc vs := by
  obtain ⟨A0, C0, rfl, _, _⟩ := hi.form
  obtain ⟨A, C, rfl, _, _⟩ := hc.form
  obtain ⟨A2, C2, rfl, _, _⟩ := hs.form
  exact ⟨⟨_, _, rfl⟩, ⟨_, _, rfl⟩, ⟨_, _, rfl⟩⟩
theorem name_empty {k : Int} (h : k < 0 ∨ 3 < k) : name k = ⟨#[]⟩ := if_pos h
theorem name_full {k : Int} (h : ¬ (k < 0 ∨ 3 < k)) : (name k).toList.isEmpty = false := by
  have e : name k = word k.toNat := if_neg h
  rw [e]
  have h4 : k.toNat < 4 := by omega
  match k.toNat, h4 with
  | 0, _ => decide +kernel
  | 1, _ => decide +kernel
  | 2, _ => decide +kernel
  | 3, _ => decide +kernel
theorem sized_size {I : In} (h : I.sized = true) : I.size ≤ 4096 := by
  unfold In.sized at h
  simp only [Bool.and_eq_true, decide_eq_true_eq] at h
  omega

set_option maxHeartbeats 4000000 in
theorem check_any (F G : Nat → Prop) (I : In) (v : Value) (w : World) (h : Ins F G w v I) (hW : WordsOk w) :
    Calls Tryz.prog 21 #[v] w fun e w' => e = .returned (.int .i64 I.chk) ∧ Below w.heap.size w w' := by
  obtain ⟨vi, vc, vs, uc, us, rfl, hi, hc, hs⟩ := h.form
  have HL := Ins.lens hi hc hs
  have NA := fun W hw => name_any I.kind W hw
  have HO := fun W => hasOthers_any I vi vc vs HL W
  have HZ := fun W => isSized_any I vi vc vs HL W
  have HF := fun W a b => isFormed_any F G I vi vc vs uc us W a b
  have HBd := fun W a b c => isBounded_any F G I vi vc vs uc us W a b c
  have HH := fun W a b => isHollow_any F G I vi vc vs uc W a b
  unfold inV at HO HZ HF HBd HH
  obtain ⟨⟨a1, k1, e1⟩, ⟨a2, k2, e2⟩, ⟨a3, k3, e3⟩⟩ := HL
  subst e1 e2 e3
  have nb := new_below w (.cells #[.int .i64 I.kind, .int .i64 I.cap, .slice a1 I.items.length k1, .slice a2 I.cost.length k2, .int .i64 I.size, .slice a3 I.sets.length k3] 33)
  have HI1 := Lib.hid (hi.next nb)
  have HC1 := Lib.hid (hc.next nb)
  have HS1 := Lib.hid (hs.next nb)
  have HB1 := Lib.hid nb
  have HW1 := Lib.hid (hW.next nb)
  have HX := Lib.hid (ibox_new w (.int .i64 I.kind) (.int .i64 I.cap) (.slice a1 I.items.length k1) (.slice a2 I.cost.length k2) (.int .i64 I.size) (.slice a3 I.sets.length k3) 33)
  obtain ⟨T, hT⟩ : ∃ T, I.chk = T := ⟨_, rfl⟩
  rw [hT]
  have HT := Lib.hid hT
  clear hi hc hs h nb hW hT
  go_enter Tryz.func21, Tryz.ntmps21
  go_wp2_with fail
  with_reducible refine (NA _ HW1.out).mono ?_
  rintro e w1 ⟨rfl, b1⟩
  have HI := Lib.hid (HI1.out.next b1)
  have HC := Lib.hid (HC1.out.next b1)
  have HS := Lib.hid (HS1.out.next b1)
  have X1 := HX.out.next b1
  have HB := Lib.hid (on HB1.out b1)
  clear b1 HI1 HC1 HS1 HB1 HW1 HX NA
  by_cases hk : I.kind < 0 ∨ 3 < I.kind
  · obtain ⟨x0, x1, x2, x3, x4, x5⟩ := X1
    have HR := Lib.hid (In.chk_kind hk)
    rw [name_empty hk]
    clear hk
    go_wp2
    go_ret
    exact ⟨by rw [show T = 25 by rw [← HT.out]; exact HR.out]; rfl, HB.out⟩
  have hname := name_full hk
  have HK : Hid (0 ≤ I.kind ∧ I.kind ≤ 3) := by show _ ∧ _; omega
  clear hk
  obtain ⟨x0, x1, x2, x3, x4, x5⟩ := X1
  have hsx := cell_lt x0
  generalize name I.kind = nm at hname
  go_wp2_with fail
  with_reducible refine (HO _).mono ?_
  rintro e w2 ⟨rfl, b2⟩
  have X2 := (IBox.mk x0 x1 x2 x3 x4 x5).next b2
  have HI2 := Lib.hid (HI.out.next b2)
  have HC2 := Lib.hid (HC.out.next b2)
  have HS2 := Lib.hid (HS.out.next b2)
  have HB2 := Lib.hid (on HB.out b2)
  clear x0 x1 x2 x3 x4 x5 hsx b2 HI HC HS HB HO
  by_cases ho : I.others = true
  · obtain ⟨x0, x1, x2, x3, x4, x5⟩ := X2
    have HR := Lib.hid (In.chk_others HK.out.1 HK.out.2 ho)
    rw [ho]
    clear ho
    go_wp2
    go_ret
    exact ⟨by rw [show T = 4 by rw [← HT.out]; exact HR.out]; rfl, HB2.out⟩
  have ho : I.others = false := by simpa using ho
  have HO1 := Lib.hid ho
  rw [ho]
  clear ho
  obtain ⟨x0, x1, x2, x3, x4, x5⟩ := X2
  have hsx := cell_lt x0
  go_wp2_with fail
  with_reducible refine (HZ _).mono ?_
  rintro e w3 ⟨rfl, b3⟩
  have X3 := (IBox.mk x0 x1 x2 x3 x4 x5).next b3
  have HI3 := Lib.hid (HI2.out.next b3)
  have HC3 := Lib.hid (HC2.out.next b3)
  have HS3 := Lib.hid (HS2.out.next b3)
  have HB3 := Lib.hid (on HB2.out b3)
  clear x0 x1 x2 x3 x4 x5 hsx b3 HI2 HC2 HS2 HB2 HZ
  by_cases hz : I.sized = false
  · obtain ⟨x0, x1, x2, x3, x4, x5⟩ := X3
    have HR := Lib.hid (In.chk_sized HK.out.1 HK.out.2 HO1.out hz)
    rw [hz]
    clear hz
    go_wp2
    go_ret
    exact ⟨by rw [show T = 22 by rw [← HT.out]; exact HR.out]; rfl, HB3.out⟩
  have hz : I.sized = true := by simpa using hz
  have HZ1 := Lib.hid hz
  rw [hz]
  clear hz
  obtain ⟨x0, x1, x2, x3, x4, x5⟩ := X3
  have hsx := cell_lt x0
  go_wp2_with fail
  with_reducible refine (HF _ HC3.out HS3.out (sized_size HZ1.out)).mono ?_
  rintro e w4 ⟨rfl, b4⟩
  have X4 := (IBox.mk x0 x1 x2 x3 x4 x5).next b4
  have HI4 := Lib.hid (HI3.out.next b4)
  have HC4 := Lib.hid (HC3.out.next b4)
  have HS4 := Lib.hid (HS3.out.next b4)
  have HB4 := Lib.hid (on HB3.out b4)
  clear x0 x1 x2 x3 x4 x5 hsx b4 HI3 HC3 HS3 HB3 HF
  by_cases hf : I.formed = false
  · obtain ⟨x0, x1, x2, x3, x4, x5⟩ := X4
    have HR := Lib.hid (In.chk_formed HK.out.1 HK.out.2 HO1.out HZ1.out hf)
    rw [hf]
    clear hf
    go_wp2
    go_ret
    exact ⟨by rw [show T = 4 by rw [← HT.out]; exact HR.out]; rfl, HB4.out⟩
  have hf : I.formed = true := by simpa using hf
  have HF1 := Lib.hid hf
  rw [hf]
  clear hf
  obtain ⟨x0, x1, x2, x3, x4, x5⟩ := X4
  have hsx := cell_lt x0
  go_wp2_with fail
  with_reducible refine (HBd _ HI4.out HC4.out HS4.out).mono ?_
  rintro e w5 ⟨rfl, b5⟩
  have X5 := (IBox.mk x0 x1 x2 x3 x4 x5).next b5
  have HC5 := Lib.hid (HC4.out.next b5)
  have HB5 := Lib.hid (on HB4.out b5)
  clear x0 x1 x2 x3 x4 x5 hsx b5 HI4 HC4 HS4 HB4 HBd
  by_cases hfi : I.fine = false
  · obtain ⟨x0, x1, x2, x3, x4, x5⟩ := X5
    have HR := Lib.hid (In.chk_fine HK.out.1 HK.out.2 HO1.out HZ1.out HF1.out hfi)
    rw [hfi]
    clear hfi
    go_wp2
    go_ret
    exact ⟨by rw [show T = 22 by rw [← HT.out]; exact HR.out]; rfl, HB5.out⟩
  have hfi : I.fine = true := by simpa using hfi
  have HL1 := Lib.hid (In.chk_last HK.out.1 HK.out.2 HO1.out HZ1.out HF1.out hfi)
  rw [hfi]
  clear hfi
  obtain ⟨x0, x1, x2, x3, x4, x5⟩ := X5
  have hsx := cell_lt x0
  by_cases h2 : I.kind = 2
  · have HL2 : Hid (T = if hol 0 I.cost = false then 4 else 0) := by
      show _ = _
      rw [← HT.out, HL1.out]
      simp [h2]
    rw [h2] at x0 HH
    rw [h2]
    clear h2
    go_wp2_with fail
    with_reducible refine (HH _ HC5.out (fun i r hr => In.formed_row HF1.out hr)).mono ?_
    rintro e w6 ⟨rfl, b6⟩
    have HB6 := Lib.hid (on HB5.out b6)
    clear b6 x0 x1 x2 x3 x4 x5 hsx
    by_cases h0 : hol 0 I.cost = false
    · have HR : Hid (T = 4) := by show _ = _; rw [HL2.out, if_pos h0]
      rw [h0]
      clear h0
      go_wp2
      go_ret
      exact ⟨by rw [HR.out]; rfl, HB6.out⟩
    · have HR : Hid (T = 0) := by show _ = _; rw [HL2.out, if_neg h0]
      have h0 : hol 0 I.cost = true := by simpa using h0
      rw [h0]
      clear h0
      go_wp2
      go_ret
      exact ⟨by rw [HR.out]; rfl, HB6.out⟩
  · have HL2 : Hid (T = 0) := by
      show _ = _
      rw [← HT.out, HL1.out]
      simp [h2]
    have e2 : (I.kind == 2) = false := by simpa using h2
    clear h2
    go_wp2
    go_ret
    exact ⟨by rw [HL2.out]; rfl, HB5.out⟩
theorem dec_bad {I : In} (h : ¬ I.chk = 0) : I.dec = 0 := if_neg h
theorem dec_good {I : In} (h : I.chk = 0) : I.dec = (if I.kind = 0 then (I.items.length : Int) else if I.kind = 1 then (I.cost.length : Int) else if I.kind = 2 then (I.cost.length : Int) - 1 else (I.sets.length : Int)) := if_pos h
theorem chk_cost {I : In} (h : I.chk = 0) (h2 : I.kind = 2) : 1 ≤ I.cost.length ∧ I.cost.length ≤ 64 := by
  unfold In.chk at h
  split at h
  · omega
  · split at h
    · omega
    · split at h
      · omega
      · rename_i _ _ hz
        have hz : I.sized = true := by simpa using hz
        unfold In.sized at hz
        simp only [Bool.and_eq_true, decide_eq_true_eq, Bool.or_eq_true, Bool.not_eq_true', Bool.or_eq_false_iff, decide_eq_false_iff_not] at hz
        omega

end Go.Proofs.YtbadingdklenhaaGreatDoor
