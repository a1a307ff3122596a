/-
  What the laws' tame does (layer 9): the clamp, what it answers, and which of its answers may be.
-/
import Derived.Test.YtbadingdklenhaaGreatDoorTopMake
namespace Go.Proofs.YtbadingdklenhaaGreatDoor
set_option maxRecDepth 100000
open Go.RowKit

def cl (n : Int) : Int := min (max n (-2147483648)) 2147483648
theorem cl_in (n : Int) : -2147483648 ≤ cl n ∧ cl n ≤ 2147483648 := by unfold cl; omega
theorem amt_cl (n : Int) : amt (max 0 (cl n)) = true := by
  have := cl_in n
  unfold amt
  simp only [Bool.and_eq_true, decide_eq_true_eq]
  omega
theorem mag_cl (n : Int) : mag (cl n) = true := by
  have := cl_in n
  unfold mag
  simp only [Bool.and_eq_true, decide_eq_true_eq]
  omega
theorem clamp_any (n : Int) (w : World) : Calls Tryz.prog 40 #[.int .i64 n] w fun e w' => e = .returned (.int .i64 (cl n)) ∧ w' = w := by
  unfold cl
  go_enter Tryz.func40, Tryz.ntmps40
  go_wp2
  go_ret
  exact ⟨rfl, rfl⟩
/-- What tame answers. -/
def IsTame (w : World) (e : Ending) (w' : World) : Prop :=
  ∃ (J : In) (v : Value), e = .returned v ∧ Ins (fun _ => True) (fun _ => True) w' v J ∧ J.Small ∧ J.chk = 0 ∧ Below w.heap.size w w'
namespace IBlk
variable {b : Nat} {T : TypeId} {k c i s z t : Value} {w : World}
theorem set1 (h : IBlk b T k c i s z t w) (v : Value) : IBlk b T k v i s z t (w.setCell ⟨b, 1, none⟩ v) := heap_setCell_same w b 1 _ _ v h
theorem set4 (h : IBlk b T k c i s z t w) (v : Value) : IBlk b T k c i s v t (w.setCell ⟨b, 4, none⟩ v) := heap_setCell_same w b 4 _ _ v h
end IBlk
theorem kind_wrap (k : Int) : wrap64 (k.tmod 4 + 4) = k.tmod 4 + 4 := by
  have h1 : -4 < k.tmod 4 ∧ k.tmod 4 < 4 := by
    rcases Int.lt_or_le k 0 with hk | hk
    · have e : k.tmod 4 = -((-k) % 4) := by
        rw [← Int.neg_neg k, Int.neg_tmod, Int.neg_neg, Int.tmod_eq_emod_of_nonneg (by omega)]
      omega
    · rw [Int.tmod_eq_emod_of_nonneg hk]; omega
  unfold wrap64
  omega
theorem kind_four (k : Int) : (k.tmod 4 + 4).tmod 4 = 0 ∨ (k.tmod 4 + 4).tmod 4 = 1 ∨ (k.tmod 4 + 4).tmod 4 = 2 ∨ (k.tmod 4 + 4).tmod 4 = 3 := by
  have h1 : -4 < k.tmod 4 ∧ k.tmod 4 < 4 := by
    rcases Int.lt_or_le k 0 with hk | hk
    · have e : k.tmod 4 = -((-k) % 4) := by
        rw [← Int.neg_neg k, Int.neg_tmod, Int.neg_neg, Int.tmod_eq_emod_of_nonneg (by omega)]
      omega
    · rw [Int.tmod_eq_emod_of_nonneg hk]; omega
  rw [Int.tmod_eq_emod_of_nonneg (a := k.tmod 4 + 4) (by omega)]
  omega
theorem chk_items {cap : Int} {its : List (Int × Int)} (h0 : amt cap = true) (hl : its.length ≤ 12) (ha : its.all (fun p => amt p.1 && amt p.2) = true) : (In.mk 0 cap its [] 0 []).chk = 0 := by
  have h4 : its.length ≤ 4096 := by omega
  rw [In.chk_last (by simp) (by simp) (by simp [In.others, In.sq, In.cv]) (by simp [In.sized, h4]) (by simp [In.formed]) (by simp only [In.fine, h0, ha]; rfl)]
  rfl
theorem chk_sets {z : Int} {S : List (Int × List Int)} (h0 : 0 ≤ z) (h1 : z ≤ 8) (hl : S.length ≤ 12) (ha : S.all (fun s => amt s.1) = true) (hr : S.all (fun s => ris z 0 s.2) = true) : (In.mk 3 0 [] [] z S).chk = 0 := by
  have h4 : S.length ≤ 4096 := by omega
  have h5 : z ≤ 4096 := by omega
  rw [In.chk_last (by simp) (by simp) (by simp [In.others, In.kn, In.sq]) (by simp [In.sized, h0, h4, h5]) (by simp only [In.formed, hr]; rfl) (by simp only [In.fine, ha]; rfl)]
  rfl
theorem chk_square {K : Int} {R : List (List Int)} (hK : K = 1 ∨ K = 2) (h1 : 1 ≤ R.length) (hl : R.length ≤ 12) (ha : R.all (fun r => decide (r.length = R.length)) = true) (hm : R.all (fun r => r.all mag) = true) (hh : K = 2 → hol 0 R = true) : (In.mk K 0 [] R 0 []).chk = 0 := by
  have h4 : R.length ≤ 64 := by omega
  have e1 : (In.mk K 0 [] R 0 []).others = false := by rcases hK with rfl | rfl <;> simp [In.others, In.kn, In.cv]
  have e2 : (In.mk K 0 [] R 0 []).sized = true := by simp [In.sized, h1, h4]
  rw [In.chk_last (by show 0 ≤ K; omega) (by show K ≤ 3; omega) e1 e2 (by simp only [In.formed, ha]; rfl) (by simp only [In.fine, hm]; rfl)]
  rw [if_neg]
  rintro ⟨a, b⟩
  rw [hh a] at b
  cases b
end Go.Proofs.YtbadingdklenhaaGreatDoor
