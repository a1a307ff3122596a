/-
  What every statement of layer 8 asks first (wakes); how long what is joined can be.
-/
import Derived.Test.YtmiibffbakbklaaDoorLexJoin
namespace Go.Proofs.YtmiibffbakbklaaDoor
set_option maxRecDepth 100000
open Go.RowKit

theorem wake_toks : lexP [115, 101, 116, 32, 45, 53, 58, 32, 49, 32, 35, 32, 99, 97, 102, 195, 169] =
    ⟨[⟨0, [115, 101, 116], 0, 1, 1⟩, ⟨1, [45, 53], -5, 1, 5⟩, ⟨2, [58], 0, 1, 7⟩, ⟨1, [49], 1, 1, 9⟩, ⟨3, [], 0, 1, 17⟩], 0, 0, 0⟩ := by kernel_rfl

set_option maxHeartbeats 4000000 in
theorem wakes_any (w : World) (hL : LibOk w) : Calls Tryd.prog 9 #[] w fun e w' => e = .returned (.bool true) ∧ Below w.heap.size w w' := by
  have L := lex_any ⟨#[115, 101, 116, 32, 45, 53, 58, 32, 49, 32, 35, 32, 99, 97, 102, 195, 169]⟩ w hL
  rw [show (⟨#[115, 101, 116, 32, 45, 53, 58, 32, 49, 32, 35, 32, 99, 97, 102, 195, 169]⟩ : ByteArray).data.toList = [115, 101, 116, 32, 45, 53, 58, 32, 49, 32, 35, 32, 99, 97, 102, 195, 169] from rfl, wake_toks] at L
  go_enter Tryd.func9, Tryd.ntmps9
  go_wp2_with fail
  with_reducible refine L.mono ?_
  rintro e w1 ⟨v, rfl, own, b1⟩
  obtain ⟨A, cap, rfl, hc1, hc2, hg⟩ := toks_of_own own
  obtain ⟨g, rfl, hG⟩ := hg (by decide)
  have hgl := hG.1
  have G := ToksAt.next hG (new_below w1 (.cells #[.int .i64 0, .int .i64 0] 24))
  have c0 := (G.get (i := 0) rfl).2.1
  have c1 := (G.get (i := 1) rfl).2.2.1
  have c2 := (G.get (i := 2) rfl).1
  have c3 := (G.get (i := 3) rfl).2.2.1
  have c4 := (G.get (i := 4) rfl).2.2.2.1
  have c5 := (G.get (i := 4) rfl).2.2.2.2
  simp only [Nat.zero_mul, Nat.one_mul, Nat.zero_add] at c0 c1 c2 c3 c4 c5
  unfold maxLen at hc2
  clear own hG G L hL
  go_wp2
  go_ret
  exact ⟨rfl, b1.alloc b1.size _⟩

/-! ### how long what is joined can be -/
def sumT : List Tk → Nat
  | [] => 0
  | x :: r => x.text.length + 1 + sumT r
theorem sumT_app : ∀ (a b : List Tk), sumT (a ++ b) = sumT a + sumT b
  | [], b => by show sumT b = 0 + sumT b; omega
  | x :: a, b => by
    show x.text.length + 1 + sumT (a ++ b) = x.text.length + 1 + sumT a + sumT b
    rw [sumT_app a b]
    omega
theorem jnf_le : ∀ (l : List Tk) (b : List UInt8), b.length ≤ 1 → (jnf b l).length ≤ sumT l
  | [], b, _ => by show 0 ≤ 0; omega
  | x :: r, b, h => by
    unfold jnf
    show _ ≤ x.text.length + 1 + sumT r
    split
    · have := jnf_le r b h
      omega
    · have := jnf_le r [32] (by simp)
      simp only [List.length_append]
      omega
theorem lx_sum : ∀ (n : Nat) (l : List UInt8), l.length ≤ n → ∀ line col rm, sumT (lx l line col rm).toks ≤ 2 * l.length + 1 ∧ (lx l line col rm).toks.length ≤ l.length + 1 := by
  intro n
  induction n with
  | zero =>
    intro l hl line col rm
    obtain rfl : l = [] := List.eq_nil_of_length_eq_zero (by omega)
    exact ⟨by show 0 + 1 + 0 ≤ _; omega, by show 1 ≤ _; omega⟩
  | succ n ih =>
    intro l hl line col rm
    cases l with
    | nil => exact ⟨by show 0 + 1 + 0 ≤ _; omega, by show 1 ≤ _; omega⟩
    | cons a r =>
      simp only [List.length_cons] at hl ⊢
      rw [lx_cons]
      by_cases h0 : pt (a :: r) = 0
      · rw [if_pos h0]; exact ⟨by show 0 ≤ _; omega, by show 0 ≤ _; omega⟩
      rw [if_neg h0]
      by_cases h10 : a = 10
      · rw [if_pos h10]
        have := ih r (by omega) (line + 1) 1 false
        omega
      rw [if_neg h10]
      by_cases hb : (rm || isB a) = true
      · rw [if_pos hb]
        have := ih (r.drop (pt (a :: r) - 1)) (by rw [List.length_drop]; omega) line (col + 1) (rm || a == 35)
        rw [List.length_drop] at this
        omega
      rw [if_neg hb]
      by_cases ht : (tk (a :: r)).1 = 0
      · rw [if_neg (show ¬ ((tk (a :: r)).1 ≠ 0) by omega)]
        have hk := tk_len ht
        simp only [List.length_cons] at hk
        have h1 := ih (r.drop ((tk (a :: r)).2.2.1 - 1)) (by rw [List.length_drop]; omega) line (col + (tk (a :: r)).2.2.1) false
        rw [List.length_drop] at h1
        unfold Rs.pre
        split
        · have ht2 : (tkAt (a :: r) line col).text.length ≤ (tk (a :: r)).2.2.1 := by
            unfold tkAt
            rw [List.length_take]
            omega
          refine ⟨?_, ?_⟩
          · show (tkAt (a :: r) line col).text.length + 1 + sumT _ ≤ _
            have h2 := h1.1
            have h3 : ∀ t : List Tk, sumT ([].append t) = sumT t := fun _ => rfl
            rw [h3]
            omega
          · simp only [List.length_append, List.length_cons, List.length_nil]
            omega
        · omega
      · rw [if_pos ht]; exact ⟨by show 0 ≤ _; omega, by show 0 ≤ _; omega⟩
theorem lexP_sum (l : List UInt8) : sumT (lexP l).toks ≤ 2097153 ∧ (lexP l).toks.length ≤ 1048577 := by
  unfold lexP
  split
  · exact ⟨by show 0 ≤ _; omega, by show 0 ≤ _; omega⟩
  · have := lx_sum l.length l (Nat.le_refl _) 1 1 false
    omega
theorem lexP_ok {l : List UInt8} (h : (lexP l).err = 0) : lexP l = lx l 1 1 false ∧ l.length ≤ 1048576 := by
  unfold lexP at h ⊢
  by_cases hl : 1048576 < l.length
  · rw [if_pos hl] at h
    exact absurd h (by show ¬ (7 : Nat) = 0; omega)
  · rw [if_neg hl]
    exact ⟨rfl, by omega⟩
theorem lexP_bad {l : List UInt8} (h : (lexP l).err ≠ 0) : (lexP l).toks = [] := by
  unfold lexP at h ⊢
  by_cases hl : 1048576 < l.length
  · rw [if_pos hl]; rfl
  · rw [if_neg hl] at h ⊢
    exact lx_bads l.length l (Nat.le_refl _) 1 1 false h
end Go.Proofs.YtmiibffbakbklaaDoor
