/-
  A list of entries in order, parted (layer 7): which bounds those have that are gone, and those that are left; those that are gone come behind.
-/
import Derived.Test.YtiighhcilgjebaaDeMath
namespace Go.Proofs.Ytiighhcilgjebaa
open Go.Sort

theorem Srt.at_ {m : List En} (h : Srt m) {i j : Nat} (hij : i < j) (hj : j < m.length) : ¬ eltP (nth m j) (nth m i) := by
  rw [nth_get hj, nth_get (by omega)]
  exact List.pairwise_iff_getElem.1 h i j (by omega) hj hij
theorem Srt.le_b {m : List En} (h : Srt m) {i j : Nat} (hij : i < j) (hj : j < m.length) : (nth m i).b ≤ (nth m j).b := by
  have := h.at_ hij hj
  unfold eltP at this
  omega
theorem nth_tk {m : List En} {n i : Nat} (h : i < (m.take n).length) : nth (m.take n) i = nth m i := by
  have h' : i < m.length := by rw [List.length_take] at h; omega
  rw [nth_get h, nth_get h']
  simp
theorem nth_evL {m : List En} {c i : Nat} (h : i < (evL m c).length) : nth (evL m c) i = nth m i := nth_tk h
theorem nth_evO {m : List En} {c j : Nat} (h : j < (evO m c).length) : nth (evO m c) j = nth m (m.length - 1 - j) := by
  have h' := h
  rw [evO_length] at h'
  have e : (evO m c)[j]? = m[m.length - 1 - j]? := by
    unfold evO
    rw [List.getElem?_take, if_pos (by omega), List.getElem?_reverse (by omega)]
  rw [nth_get h, nth_get (by omega)]
  rw [List.getElem?_eq_getElem h, List.getElem?_eq_getElem (by omega)] at e
  exact Option.some.inj e
theorem nth_evR {m : List En} {c j : Nat} (hc : c ≤ m.length) (h : j < c) : nth (evO m c).reverse j = nth m (m.length - c + j) := by
  have e := evO_rev m c
  rw [e, nth_get (by simp; omega), nth_get (by omega)]
  simp
theorem Srt.left {m : List En} (h : Srt m) (c : Nat) : Srt (evL m c) := by
  unfold Srt evL at *
  exact h.sublist (List.take_sublist _ _)
theorem cut_hi {m : List En} {b : Int} {j : Nat} (h : j < cutN m b) : b ≤ (nth (evO m (cutN m b)).reverse j).b := by
  have hc := cutN_le m b
  rw [nth_evR hc h]
  have k := (cutN_at (m := m) (b := b) (j := cutN m b - 1 - j) (by omega) (by omega)).2 (by omega)
  rw [last_evL (by omega)] at k
  rw [nth_get (by omega)]
  have e : m.length - 1 - (cutN m b - 1 - j) = m.length - cutN m b + j := by omega
  simp only [e] at k
  exact k
theorem cut_lo {m : List En} {b : Int} {j : Nat} (hs : Srt m) (h : j < (evL m (cutN m b)).length) : (nth (evL m (cutN m b)) j).b < b := by
  rw [nth_evL h]
  rw [evL_length] at h
  have k : ¬ b ≤ (hdE true (evL m (cutN m b))).b := fun hb => by
    have := (cutN_at (m := m) (b := b) (j := cutN m b) (by omega) (Nat.le_refl _)).1 hb
    omega
  rw [last_evL (by omega), ← nth_get] at k
  by_cases hj : j = m.length - 1 - cutN m b
  · rw [hj]; omega
  · have := hs.le_b (i := j) (j := m.length - 1 - cutN m b) (by omega) (by omega)
    omega
theorem ev_apart {m : List En} {c i j : Nat} (hs : Srt m) (hi : i < (evL m c).length) (hj : j < (evO m c).length) : eltB (nth (evO m c) j) (nth (evL m c) i) = false := by
  rw [eltB_false, nth_evL hi, nth_evO hj]
  rw [evL_length] at hi
  rw [evO_length] at hj
  exact hs.at_ (by omega) (by omega)
end Go.Proofs.Ytiighhcilgjebaa
