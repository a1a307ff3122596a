/-
  What the document's Join does with a list of tokens.
-/
import Derived.Test.YtmiibffbakbklaaDoorLexJoin
namespace Go.Proofs.YtmiibffbakbklaaDoor
set_option maxRecDepth 100000
open Go.RowKit

theorem rjn_ge : ∀ (l : List Tk) (acc : List UInt8), acc.length ≤ (rjn acc l).length
  | [], acc => Nat.le_refl _
  | x :: r, acc => by
    unfold rjn
    split
    · exact rjn_ge r acc
    · refine Nat.le_trans ?_ (rjn_ge r _)
      split
      · rename_i h
        rw [h]
        exact Nat.zero_le _
      · simp only [List.length_append]
        omega
theorem rjn_drop {l : List Tk} {k : Nat} {x : Tk} (h : l[k]? = some x) (b : List UInt8) : rjn b (l.drop k) = if x.kind = 3 then rjn b (l.drop (k + 1)) else rjn ((if b = [] then [] else b ++ [32]) ++ x.text) (l.drop (k + 1)) := by
  obtain ⟨hk, hx⟩ := List.getElem?_eq_some_iff.1 h
  rw [List.drop_eq_getElem_cons hk, hx]
  rfl
theorem app_ba (A : ByteArray) (l : List UInt8) : A ++ (⟨l.toArray⟩ : ByteArray) = ⟨(A.data.toList ++ l).toArray⟩ := by
  refine ba_same ?_
  rw [ByteArray.data_append]
  simp

set_option maxHeartbeats 4000000 in
theorem rjoin_any (l : List Tk) (v : Value) (hM : (rjn [] l).length ≤ 140737488355328) (hn : l.length ≤ 4294967296) (w : World) (hT : Toks w v l) :
    Calls Tryd.prog 11 #[v] w fun e w' => e = .returned (.string ⟨(rjn [] l).toArray⟩) ∧ Below w.heap.size w w' := by
  obtain ⟨A, cap, rfl, hc1, hc2, hg⟩ := hT
  unfold maxLen at hc2
  have HG := Lib.hid hg
  clear hg
  go_enter Tryd.func11, Tryd.ntmps11
  go_wp2
  go_loopw [3, 4] (fun sv iv wr => ∃ (k : Nat) (acc : ByteArray), k ≤ l.length ∧ sv = .string acc ∧ iv = .int .i64 (k : Nat) ∧ Hid (rjn acc.data.toList (l.drop k) = rjn [] l) ∧ wr = w) (fun _ iv _ => l.length - (intOf iv).toNat)
  case atStart => exact ⟨0, ⟨#[]⟩, by omega, rfl, rfl, rfl, rfl⟩
  case round =>
    obtain ⟨k, acc, hk, rfl, rfl, hQ, rfl⟩ := hrel
    by_cases hlt : k < l.length
    · obtain ⟨x, hx⟩ : ∃ x, l[k]? = some x := ⟨_, List.getElem?_eq_getElem hlt⟩
      obtain ⟨g, rfl, hG⟩ := HG.out (by omega)
      have hgl := hG.1
      obtain ⟨c0, c1, c2, c3, c4⟩ := hG.get hx
      have hq := hQ.out
      rw [rjn_drop hx] at hq
      by_cases h3 : x.kind = 3
      · rw [if_pos h3] at hq
        have HQ := Lib.hid hq
        have k3 : ((x.kind : Nat) : Int) = 3 := by omega
        clear hQ hq hx hG
        go_wp2
        go_roundw
        case rel => exact ⟨k + 1, acc, by omega, rfl, by go_num, HQ.out, trivial⟩
        case measure => simp [intOf]; omega
      · rw [if_neg h3] at hq
        have k3 : ¬ ((x.kind : Nat) : Int) = 3 := by omega
        have hge := rjn_ge (l.drop (k + 1)) ((if acc.data.toList = [] then [] else acc.data.toList ++ [32]) ++ x.text)
        rw [hq, List.length_append] at hge
        have has := size_list acc
        have hxs := ba_size x.text
        by_cases h0 : acc.data.toList = []
        · rw [if_pos h0, List.nil_append] at hq
          have HQ := Lib.hid hq
          have h0' : acc.toList.isEmpty = true := by
            rw [Lib.toList_data, h0]
            rfl
          have hz : acc.size = 0 := by
            rw [← has, h0]
            rfl
          have hq3 : Hid (rjn (acc ++ (⟨x.text.toArray⟩ : ByteArray)).data.toList (l.drop (k + 1)) = rjn [] l) := by
            rw [app_ba, ba_list, h0]
            exact HQ.out
          clear hQ hq hx hG h0
          go_wp2
          go_roundw
          case rel => exact ⟨k + 1, _, by omega, rfl, by go_num, hq3, trivial⟩
          case measure => simp [intOf]; omega
        · rw [if_neg h0] at hq hge
          have HQ := Lib.hid hq
          rw [List.length_append, has] at hge
          simp only [List.length_cons, List.length_nil] at hge
          have h0' : acc.toList.isEmpty = false := by
            rw [Lib.toList_data]
            simpa using h0
          have hq3 : Hid (rjn (acc ++ (⟨#[32]⟩ : ByteArray) ++ ⟨x.text.toArray⟩).data.toList (l.drop (k + 1)) = rjn [] l) := by
            rw [app_ba, ba_list, show (acc ++ (⟨#[32]⟩ : ByteArray)).data.toList = acc.data.toList ++ [32] by rw [ByteArray.data_append]; simp]
            exact HQ.out
          have hz : (acc ++ (⟨#[32]⟩ : ByteArray)).size = acc.size + 1 := by rw [ByteArray.size_append]; rfl
          clear hQ hq hx hG h0
          go_wp2
          go_roundw
          case rel => exact ⟨k + 1, _, by omega, rfl, by go_num, hq3, trivial⟩
          case measure => simp [intOf]; omega
    · obtain rfl : k = l.length := by omega
      have hq := hQ.out
      rw [List.drop_eq_nil_of_le (Nat.le_refl _)] at hq
      have hq2 : acc = ⟨(rjn [] l).toArray⟩ := ba_same (by rw [ba_list]; exact hq)
      go_wp2
      go_ret
      exact ⟨by rw [← hq2]; rfl, Below.refl _ _⟩
end Go.Proofs.YtmiibffbakbklaaDoor
