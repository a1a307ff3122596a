/-
  What the small calls of package bitset (layer 3) and of math/bits do: contracts over the translated text. Nothing that was in memory before turns.
-/
import Derived.Test.YtooehfjappckmaaDoorRows
import Derived.Test.YtooehfjappckmaaDoorPopMath
import Derived.WalkSpells
import Derived.WalkLawsBesides
import Derived.Deep.RegionHeld3
import Derived.Deep.RegionWith
import Derived.BigQuiet
namespace Go.Proofs.YtooehfjappckmaaDoor
set_option maxRecDepth 100000
open Go.RowKit

/-- The first N words of a set in memory. -/
def WordsAt (w : World) (x : Option Addr) (cap N : Nat) (p : Nat → Bool) : Prop :=
  (x = none ∧ cap = 0 ∧ N = 0) ∨
  ∃ b, x = some ⟨b, 0, none⟩ ∧ b < w.heap.size ∧ N ≤ cap ∧ cap ≤ maxLen ∧ ∀ k, k < N → w.cell? ⟨b, k, none⟩ = some (.int .u64 ((wd p k : Nat) : Int))
theorem WordsAt.below {w w' : World} {x : Option Addr} {cap N : Nat} {p : Nat → Bool} (h : WordsAt w x cap N p) (hb : Below w.heap.size w w') : WordsAt w' x cap N p := by
  rcases h with h | ⟨b, h1, h2, h3, h4, h5⟩
  · exact Or.inl h
  · exact Or.inr ⟨b, h1, Nat.lt_of_lt_of_le h2 hb.size, h3, h4, fun i hi => by rw [hb.cell (by exact h2)]; exact h5 i hi⟩
theorem WordsAt.at {w : World} {x : Option Addr} {cap N : Nat} {p : Nat → Bool} (h : WordsAt w x cap N p) {k : Nat} (hk : k < N) : ∃ b, x = some ⟨b, 0, none⟩ ∧ b < w.heap.size ∧ w.cell? ⟨b, k, none⟩ = some (.int .u64 ((wd p k : Nat) : Int)) := by
  rcases h with ⟨_, _, h⟩ | ⟨b, h1, h2, h3, h4, h5⟩
  · omega
  · exact ⟨b, h1, h2, h5 k hk⟩
theorem WordsAt.cap_ok {w : World} {x : Option Addr} {cap N : Nat} {p : Nat → Bool} (h : WordsAt w x cap N p) : N ≤ cap ∧ cap ≤ maxLen := by
  rcases h with ⟨_, h1, h2⟩ | ⟨b, h1, h2, h3, h4, h5⟩
  · subst h1 h2; exact ⟨Nat.le_refl _, Nat.zero_le _⟩
  · exact ⟨h3, h4⟩

/-- A set of the size n whose numbers are p. -/
structure SetAt (w : World) (n : Nat) (p : Nat → Bool) (x : Option Addr) (cap : Nat) : Prop where
  mk ::
  le : n ≤ 4096
  out : ∀ i, n ≤ i → p i = false
  words : WordsAt w x cap (nw n) p
theorem SetAt.below {w w' : World} {n : Nat} {p : Nat → Bool} {x : Option Addr} {cap : Nat} (h : SetAt w n p x cap) (hb : Below w.heap.size w w') : SetAt w' n p x cap :=
  ⟨h.le, h.out, h.words.below hb⟩
def setV (n : Nat) (x : Option Addr) (cap : Nat) : Value := .agg #[.int .i64 n, .slice x (nw n) cap]

theorem fits_any (a : Int) (w : World) :
    Calls Tryd.prog 35 #[.int .i64 a] w fun e w' => e = .returned (.bool (decide (0 ≤ a ∧ a ≤ 4096))) ∧ w' = w := by
  go_enter Tryd.func35, Tryd.ntmps35
  by_cases h0 : 0 ≤ a
  · by_cases h1 : a ≤ 4096
    · go_wp2
      go_ret
      exact ⟨by simp [h0, h1], rfl⟩
    · go_wp2
      go_ret
      exact ⟨by simp [h1], rfl⟩
  · go_wp2
    go_ret
    exact ⟨by rw [decide_eq_false (show ¬ (0 ≤ a) by omega)]; rfl, rfl⟩

theorem below_any (i : Nat) (h : i < 64) (w : World) :
    Calls Tryd.prog 53 #[.int .i64 i] w fun e w' => e = .returned (.int .u64 ((2 ^ i - 1 : Nat) : Int)) ∧ w' = w := by
  have hp : (2 : Nat) ^ i < 2 ^ 64 := Nat.pow_lt_pow_right (by omega) h
  have hp1 : 0 < (2 : Nat) ^ i := Nat.two_pow_pos i
  obtain ⟨P, hP⟩ : ∃ P, (2 : Nat) ^ i = P := ⟨_, rfl⟩
  have e1 : IntKind.u64.wrap ((2 : Int) ^ i) = (P : Int) := by
    rw [IntKind.wrap_u64, show (2 : Int) ^ i = ((2 ^ i : Nat) : Int) by simp, hP]; omega
  have e2 : IntKind.u64.wrap ((P : Int) - 1) = ((P - 1 : Nat) : Int) := by rw [IntKind.wrap_u64]; omega
  rw [hP]
  clear hP hp
  go_enter Tryd.func53, Tryd.ntmps53
  go_wp2
  go_ret
  exact ⟨rfl, rfl⟩

theorem holds_any (n : Nat) (s : Value) (i : Int) (w : World) :
    Calls Tryd.prog 39 #[.agg #[.int .i64 n, s], .int .i64 i] w fun e w' => e = .returned (.bool (decide (0 ≤ i ∧ i < n))) ∧ Below w.heap.size w w' := by
  go_enter Tryd.func39, Tryd.ntmps39
  by_cases h0 : 0 ≤ i
  · by_cases h1 : i < n
    · go_wp2
      go_ret
      exact ⟨by simp [h0, h1], (Below.refl _ _).alloc (Nat.le_refl _) _⟩
    · go_wp2
      go_ret
      exact ⟨by simp [h1], (Below.refl _ _).alloc (Nat.le_refl _) _⟩
  · go_wp2
    go_ret
    exact ⟨by rw [decide_eq_false (show ¬ (0 ≤ i) by omega)]; rfl, (Below.refl _ _).alloc (Nat.le_refl _) _⟩

theorem size_any (n : Nat) (s : Value) (w : World) :
    Calls Tryd.prog 10 #[.agg #[.int .i64 n, s]] w fun e w' => e = .returned (.int .i64 n) ∧ Below w.heap.size w w' := by
  go_enter Tryd.func10, Tryd.ntmps10
  go_wp2
  go_ret
  exact ⟨rfl, (Below.refl _ _).alloc (Nat.le_refl _) _⟩

theorem word_any (a : Value) (x : Option Addr) (cap N : Nat) (p : Nat → Bool) (k : Nat) (w : World) (h : WordsAt w x cap N p) (hz : N ≤ k → wd p k = 0) :
    Calls Tryd.prog 46 #[.agg #[a, .slice x N cap], .int .i64 k] w fun e w' => e = .returned (.int .u64 ((wd p k : Nat) : Int)) ∧ Below w.heap.size w w' := by
  obtain ⟨hc1, hc2⟩ := h.cap_ok
  unfold maxLen at hc2
  by_cases hkN : k < N
  · obtain ⟨b, rfl, hb, hc⟩ := h.at hkN
    have hc' : (w.alloc (.cells #[a, .slice (some ⟨b, 0, none⟩) N cap] 25)).cell? ⟨b, k, none⟩ = some (.int .u64 ((wd p k : Nat) : Int)) := by
      rw [((Below.refl w.heap.size w).alloc (Nat.le_refl _) _).cell (by exact hb)]; exact hc
    generalize wd p k = u at *
    clear hz
    go_enter Tryd.func46, Tryd.ntmps46
    go_wp2
    go_ret
    exact ⟨rfl, (Below.refl _ _).alloc (Nat.le_refl _) _⟩
  · rw [hz (by omega)]
    clear hz
    go_enter Tryd.func46, Tryd.ntmps46
    go_wp2
    go_ret
    exact ⟨rfl, (Below.refl _ _).alloc (Nat.le_refl _) _⟩

end Go.Proofs.YtooehfjappckmaaDoor
