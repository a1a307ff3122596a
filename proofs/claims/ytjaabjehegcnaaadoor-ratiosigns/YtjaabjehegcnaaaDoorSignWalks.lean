/-
  What the document's Text does (package secateurref02).
-/
import Derived.Test.YtjaabjehegcnaaaDoorTextWalks
import Derived.Test.YtjaabjehegcnaaaDoorDigitWalks
import Derived.Test.YtjaabjehegcnaaaDoorRefWalks
namespace Go.Proofs.YtjaabjehegcnaaaDoor
set_option maxRecDepth 100000
open Go.RowKit

theorem rtext_any (n d : Int) (hn : I64 n) (hd : I64 d) (w : World) :
    Calls Tryd.prog 27 #[.int .i64 n, .int .i64 d] w fun e w' => e = .returned (strV (txt n d)) ∧ Below w.heap.size w w' := by
  have G := rgood_any n d hn hd
  by_cases hg : goodB n d = true
  · rw [hg] at G
    have FN := digits_any n hn
    have FD := digits_any d hd
    by_cases h1 : d = 1
    · have e1 : txt n d = Lib.itoa n := by unfold txt; rw [if_pos hg, if_pos h1]
      rw [e1]
      have hd1 : (d == 1) = true := by simp [h1]
      clear h1 e1 hg
      go_enter Tryd.func27, Tryd.ntmps27
      go_wp2_with fail
      with_reducible refine (G _).mono ?_
      rintro e w1 ⟨rfl, b1⟩
      go_wp2_with fail
      with_reducible refine (FN _).mono ?_
      rintro e w2 ⟨rfl, b2⟩
      have B2 := on b1 b2
      clear b1 b2
      go_wp2_with fail
      with_reducible refine (FD _).mono ?_
      rintro e w3 ⟨rfl, b3⟩
      have B3 := on B2 b3
      go_wp2
      go_ret
      exact ⟨rfl, B3⟩
    · have e1 : txt n d = Lib.itoa n ++ 47 :: Lib.itoa d := by unfold txt; rw [if_pos hg, if_neg h1]
      have hd1 : (d == 1) = false := by simp [h1]
      obtain ⟨A, hA, sA, eA⟩ := itoa_ba n hn
      obtain ⟨B, hB, sB, eB⟩ := itoa_ba d hd
      rw [hA] at FN
      rw [hB] at FD
      have E1 : Hid (strV (txt n d) = .string (A ++ ⟨#[47]⟩ ++ B)) := by
        show _ = _
        unfold strV
        congr 1
        apply ByteArray.ext
        apply Array.toList_inj.1
        rw [e1]
        simp [eA, eB]
      clear h1 e1 hg hA hB eA eB
      go_enter Tryd.func27, Tryd.ntmps27
      go_wp2_with fail
      with_reducible refine (G _).mono ?_
      rintro e w1 ⟨rfl, b1⟩
      go_wp2_with fail
      with_reducible refine (FN _).mono ?_
      rintro e w2 ⟨rfl, b2⟩
      have B2 := on b1 b2
      clear b1 b2
      go_wp2_with fail
      with_reducible refine (FD _).mono ?_
      rintro e w3 ⟨rfl, b3⟩
      have B3 := on B2 b3
      go_wp2
      go_ret
      exact ⟨congrArg Ending.returned E1.out.symm, B3⟩
  · have e1 : txt n d = [] := by unfold txt; rw [if_neg hg]
    have hg' : goodB n d = false := by simpa using hg
    rw [hg'] at G
    rw [e1]
    clear e1 hg hg'
    go_enter Tryd.func27, Tryd.ntmps27
    go_wp2_with fail
    with_reducible refine (G _).mono ?_
    rintro e w1 ⟨rfl, b1⟩
    go_wp2
    go_ret
    exact ⟨rfl, b1⟩
end Go.Proofs.YtjaabjehegcnaaaDoor
