/-
  What the laws' wakes does (layer 9): the document's examples.
-/
import Derived.Test.YtoaibbcdkbddeaaDoorInstCheck
import Derived.Test.YtoaibbcdkbddeaaDoorInstEqB
import Derived.Test.YtoaibbcdkbddeaaDoorInstCopy
namespace Go.Proofs.YtoaibbcdkbddeaaDoor
set_option maxRecDepth 100000
open Go.RowKit

def wakeI : In := { kind := 3, cap := 0, items := [], cost := [], size := 3, sets := [(1, [0, 2])] }
def wakeJ : In := { kind := 4, cap := 0, items := [], cost := [], size := 0, sets := [] }
theorem wakeI_small : wakeI.Small := ⟨by decide, by decide, by decide, by decide, by decide⟩
theorem wakeJ_ins (w : World) : Ins (fun _ => True) (fun _ => True) w (.agg #[.int .i64 4, .int .i64 0, .slice none 0 0, .slice none 0 0, .int .i64 0, .slice none 0 0]) wakeJ :=
  ⟨⟨_, _, _, [], [], rfl, Lies.nil _ _ _, ⟨rfl, Lies.nil _ _ _, fun i r v h => by simp [wakeJ] at h⟩, ⟨rfl, Lies.nil _ _ _, fun i s v h => by simp [wakeJ] at h⟩⟩⟩
theorem wakeI_ins {w : World} {g : Nat} (h0 : w.heap[g]? = some (.cells #[.int .i64 0, .int .i64 2] 3 (0, 0))) (h1 : w.heap[g + 1]? = some (.cells #[.int .i64 1, .slice (some ⟨g, 0, none⟩) 2 2] 56 (0, 0))) :
    Ins (fun _ => True) (fun _ => True) w (.agg #[.int .i64 3, .int .i64 0, .slice none 0 0, .slice none 0 0, .int .i64 3, .slice (some ⟨g + 1, 0, none⟩) 1 1]) wakeI := by
  have l0 := lt_of_block h0
  have l1 := lt_of_block h1
  refine ⟨⟨_, _, _, [], [.slice (some ⟨g, 0, none⟩) 2 2], rfl, Lies.nil _ _ _, ⟨rfl, Lies.nil _ _ _, fun i r v h => by simp [wakeI] at h⟩, ⟨rfl, ⟨_, _, rfl, Nat.le_refl _, by show 1 ≤ maxLen; unfold maxLen; omega, fun _ => ⟨g + 1, 0, rfl, trivial, l1, fun j v hj => ?_⟩⟩, fun i s v hs hv => ?_⟩⟩⟩
  · have e : flS wakeI.sets [.slice (some ⟨g, 0, none⟩) 2 2] = [.int .i64 1, .slice (some ⟨g, 0, none⟩) 2 2] := rfl
    rw [e] at hj
    rw [Nat.zero_add, cell_of_row w (g + 1) j _ _ _ h1]
    simpa using hj
  · match i, hs, hv with
    | 0, hs, hv =>
      simp [wakeI] at hs
      subst hs
      simp at hv
      subst hv
      refine ⟨_, _, rfl, Nat.le_refl _, by show 2 ≤ maxLen; unfold maxLen; omega, fun _ => ⟨g, 0, rfl, trivial, l0, fun j v hj => ?_⟩⟩
      rw [Nat.zero_add, cell_of_row w g j _ _ _ h0]
      have e : nl ([0, 2] : List Int) = [.int .i64 0, .int .i64 2] := rfl
      rw [e] at hj
      simpa using hj
    | n + 1, hs, hv => simp [wakeI] at hs

set_option maxHeartbeats 2000000 in
theorem wakes_any (w : World) (hW : WordsOk w) : Calls Tryd.prog 13 #[] w fun e w' => e = .returned (.bool true) ∧ Below w.heap.size w w' := by
  obtain ⟨w3, hw3⟩ : ∃ q, q = ((w.alloc (.cells #[.int .i64 0, .int .i64 2] 3)).alloc (.cells #[.int .i64 1, .slice (some ⟨w.heap.size, 0, none⟩) 2 2] 56)).alloc (.cells #[.int .i64 3, .int .i64 0, .slice none 0 0, .slice none 0 0, .int .i64 3, .slice (some ⟨w.heap.size + 1, 0, none⟩) 1 1] 33) := ⟨_, rfl⟩
  have hb3 : Below w.heap.size w w3 := by rw [hw3]; exact ((new_below w _).alloc (by simp) _).alloc (by simp; omega) _
  have hi3 : Ins (fun _ => True) (fun _ => True) w3 (.agg #[.int .i64 3, .int .i64 0, .slice none 0 0, .slice none 0 0, .int .i64 3, .slice (some ⟨w.heap.size + 1, 0, none⟩) 1 1]) wakeI := by
    rw [hw3]
    refine wakeI_ins ?_ ?_
    · exact ((new_below _ _).block _ (by simp; omega)).trans (((new_below _ _).block _ (by simp)).trans (heap_alloc_new _ _))
    · refine ((new_below _ _).block _ (by simp)).trans ?_
      have := heap_alloc_new (w.alloc (.cells #[.int .i64 0, .int .i64 2] 3)) (.cells #[.int .i64 1, .slice (some ⟨w.heap.size, 0, none⟩) 2 2] 56)
      rw [World.size_alloc] at this
      exact this
  have hx3 : IBlk (w.heap.size + 1 + 1) 33 (.int .i64 3) (.int .i64 0) (.slice none 0 0) (.slice none 0 0) (.int .i64 3) (.slice (some ⟨w.heap.size + 1, 0, none⟩) 1 1) w3 := by
    rw [hw3]
    have := iblk_new ((w.alloc (.cells #[.int .i64 0, .int .i64 2] 3)).alloc (.cells #[.int .i64 1, .slice (some ⟨w.heap.size, 0, none⟩) 2 2] 56)) (.int .i64 3) (.int .i64 0) (.slice none 0 0) (.slice none 0 0) (.int .i64 3) (.slice (some ⟨w.heap.size + 1, 0, none⟩) 1 1) 33
    rw [World.size_alloc, World.size_alloc] at this
    exact this
  have hw3' := hW.next hb3
  have CH := fun W (a : Below w3.heap.size w3 W) => check_any _ _ wakeI _ W (hi3.next a) (hw3'.next a)
  have CN := fun W (a : Below w3.heap.size w3 W) => N_any _ _ wakeI _ W (hi3.next a) (hw3'.next a)
  have CC := fun W (a : Below w3.heap.size w3 W) => copy_any _ _ wakeI _ W (hi3.next a) wakeI_small
  have C4 := fun W (a : Below w3.heap.size w3 W) => check_any _ _ wakeJ _ W (wakeJ_ins W) (hw3'.next a)
  have NA := fun W (a : Below w3.heap.size w3 W) => name_any 2 W (hw3'.next a)
  have EQ := fun W v (a : Below w3.heap.size w3 W) (F G : Nat → Prop) (b : Ins F G W v wakeI) => equal_any _ _ F G wakeI wakeI _ v W (hi3.next a) b
  rw [show wakeI.chk = 0 by decide] at CH
  rw [show wakeI.dec = 1 by decide] at CN
  rw [show wakeJ.chk = 25 by decide] at C4
  rw [show name 2 = ⟨#[116, 115, 112]⟩ by rfl] at NA
  rw [In.eqI_self] at EQ
  have XS : ∀ W, Below w3.heap.size w3 W → W.cell? ⟨w.heap.size + 1 + 1, 0, none⟩ = some (.int .i64 3) ∧ W.cell? ⟨w.heap.size + 1 + 1, 1, none⟩ = some (.int .i64 0) ∧ W.cell? ⟨w.heap.size + 1 + 1, 2, none⟩ = some (.slice none 0 0) ∧ W.cell? ⟨w.heap.size + 1 + 1, 3, none⟩ = some (.slice none 0 0) ∧ W.cell? ⟨w.heap.size + 1 + 1, 4, none⟩ = some (.int .i64 3) ∧ W.cell? ⟨w.heap.size + 1 + 1, 5, none⟩ = some (.slice (some ⟨w.heap.size + 1, 0, none⟩) 1 1) := by
    intro W hW
    obtain ⟨a, b, c, d, e, f⟩ := (hx3.next hW).box
    exact ⟨a, b, c, d, e, f⟩
  have HXS := Lib.hid XS
  have FB : Hid (Below w3.heap.size w3 w3.drew) := (Below.refl _ _).drew
  have HB3 := Lib.hid hb3
  clear XS hi3 hx3 hw3' hb3
  go_enter Tryd.func13, Tryd.ntmps13
  go_wp2
  rw [← hw3]
  clear hw3
  go_region_held3 (fun W => W.cell? ⟨w.heap.size + 1 + 1, 0, none⟩ = some (.int .i64 3) ∧ W.cell? ⟨w.heap.size + 1 + 1, 1, none⟩ = some (.int .i64 0) ∧ W.cell? ⟨w.heap.size + 1 + 1, 2, none⟩ = some (.slice none 0 0) ∧ W.cell? ⟨w.heap.size + 1 + 1, 3, none⟩ = some (.slice none 0 0) ∧ W.cell? ⟨w.heap.size + 1 + 1, 4, none⟩ = some (.int .i64 3) ∧ W.cell? ⟨w.heap.size + 1 + 1, 5, none⟩ = some (.slice (some ⟨w.heap.size + 1, 0, none⟩) 1 1)) (exact HXS.out _ FB.out)
    (first
      | (go_at_call 9; (with_reducible refine (CH _ FB.out).mono ?_); rintro e wn ⟨rfl, b⟩
         have FB := Lib.hid (on FB.out b)
         clear b)
      | (go_at_call 11; (with_reducible refine (CN _ FB.out).mono ?_); rintro e wn ⟨rfl, b⟩
         have FB := Lib.hid (on FB.out b)
         clear b)
      | (go_at_call 17; (with_reducible refine (CC _ FB.out).mono ?_); rintro e wn ⟨vi, vc, vs, uc, us, m1, m2, m3, m4, rfl, own, b⟩
         have HCO := Lib.hid own.ins
         have FB := Lib.hid (on FB.out b)
         clear b own)
      | (go_at_call 15; (with_reducible refine (EQ _ _ FB.out _ _ HCO.out).mono ?_); rintro e wn ⟨rfl, b⟩
         have FB := Lib.hid (on FB.out b)
         clear b)
      | (go_at_call 14; (with_reducible refine (NA _ FB.out).mono ?_); rintro e wn ⟨rfl, b⟩
         have FB := Lib.hid (on FB.out b)
         clear b)
      | (go_at_call 9; (with_reducible refine (C4 _ FB.out).mono ?_); rintro e wn ⟨rfl, b⟩
         have FB := Lib.hid (on FB.out b)
         clear b))
  all_goals
    go_wp2
    go_ret
    exact ⟨rfl, on HB3.out FB.out⟩
end Go.Proofs.YtoaibbcdkbddeaaDoor
