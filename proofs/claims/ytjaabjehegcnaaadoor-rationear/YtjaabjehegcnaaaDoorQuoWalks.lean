/-
  What the document's greatest common divisor and quotients do (package secateurref01): Gcd, Floor.
-/
import Derived.Test.YtjaabjehegcnaaaDoorBigBox
import Derived.Test.YtjaabjehegcnaaaDoorNumWalks3
namespace Go.Proofs.YtjaabjehegcnaaaDoor
set_option maxRecDepth 100000
open Go.RowKit

theorem Rep.parts {w : World} {p : Bool} {x : Option Addr} {l k : Nat} {z : Int} (h : Rep w (.agg #[.bool p, .slice x l k]) z) : p = decide (z < 0) ∧ l = (dig z.natAbs).length ∧ Digs w x k (dig z.natAbs) := by
  obtain ⟨x', k', e, hD⟩ := h
  simp only [Value.agg.injEq, Array.mk.injEq, List.cons.injEq, Value.bool.injEq, Value.slice.injEq, and_true] at e
  obtain ⟨e1, e2, e3, e4⟩ := e
  subst e2; subst e4
  exact ⟨e1, e3, hD⟩
theorem Rep.abs {w : World} {p : Bool} {x : Option Addr} {l k : Nat} {z : Int} (h : Rep w (.agg #[.bool p, .slice x l k]) z) : Rep w (.agg #[.bool false, .slice x l k]) (z.natAbs : Int) := by
  obtain ⟨_, h2, h3⟩ := h.parts
  refine ⟨x, k, ?_, by simpa using h3⟩
  rw [h2]
  simp
theorem Digs.put0 {w : World} {x : Option Addr} {cap n : Nat} {ds : List Nat} {p : Bool} (h : Digs w x cap ds) (hc : w.cell? ⟨n, 0, none⟩ = some (.bool p)) (u : Value) : Digs (w.setCell ⟨n, 0, none⟩ u) x cap ds := by
  rcases h with h | ⟨b, h1, h2, h3, h4, h5⟩
  · exact Or.inl h
  · refine Or.inr ⟨b, h1, by simpa [World.setCell] using h2, h3, h4, fun i hi => ?_⟩
    have hne : b ≠ n := by
      rintro rfl
      have h0 := h5 0 (by omega)
      rw [hc] at h0
      simp at h0
    rw [World.cell?_of_block (w := w) (w' := w.setCell ⟨n, 0, none⟩ u) (a := ⟨b, i, none⟩) (by
      show (w.setCell ⟨n, 0, none⟩ u).heap[b]? = w.heap[b]?
      rw [Below.heap_setCell _ _ _ _ hne])]
    exact h5 i hi
theorem Rep.put0 {w : World} {v : Value} {z : Int} {n : Nat} {p : Bool} (h : Rep w v z) (hc : w.cell? ⟨n, 0, none⟩ = some (.bool p)) (u : Value) : Rep (w.setCell ⟨n, 0, none⟩ u) v z := by
  obtain ⟨x, c, h1, h2⟩ := h
  exact ⟨x, c, h1, h2.put0 hc u⟩

theorem tmod_in {a b : Int} (hb : I64 b) (h0 : b ≠ 0) : I64 (a.tmod b) ∧ (a.tmod b).natAbs < b.natAbs := by
  have e := Int.natAbs_tmod a b
  have := Nat.mod_lt a.natAbs (show 0 < b.natAbs by omega)
  unfold I64 at *
  omega
theorem gcd_step {a b : Int} : b.gcd (a.tmod b) = a.gcd b := by
  unfold Int.gcd
  rw [Int.natAbs_tmod, Nat.gcd_comm a.natAbs, Nat.gcd_rec b.natAbs a.natAbs, Nat.gcd_comm]

set_option maxHeartbeats 2000000 in
theorem rgcd_all (n : Nat) : ∀ (a b : Int), b.natAbs ≤ n → I64 a → I64 b → ∀ w : World,
    Calls Tryd.prog 38 #[.int .i64 a, .int .i64 b] w fun e w' => e = .returned (.tuple #[.int .i64 (fit (a.gcd b)), .bool (fitB (a.gcd b))]) ∧ Below w.heap.size w w' := by
  induction n using Nat.strongRecOn with
  | ind n ih =>
    intro a b hn ha hb w
    have IH := Lib.hid ih
    clear ih
    by_cases h0 : b = 0
    · have hg : ((a.gcd b : Nat) : Int) = (a.natAbs : Int) := by rw [h0, Int.gcd_zero]
      rw [hg]
      clear hg IH
      have hb0 := Lib.hid h0
      clear h0
      go_enter Tryd.func38, Tryd.ntmps38
      go_wp2_with fail
      with_reducible refine (of_any a ha _).mono ?_
      rintro e w1 ⟨⟨v, rfl, Q⟩, b1⟩
      obtain ⟨pA, xA, lA, kA, rfl, RA⟩ := Q.form
      go_wp2_with fail
      with_reducible refine (of_any b hb _).mono ?_
      rintro e w2 ⟨⟨v, rfl, Q⟩, b2⟩
      obtain ⟨pB, xB, lB, kB, rfl, RB⟩ := Q.form
      have hl : lB = 0 := by rw [RB.parts.2.1, hb0.out]; simp [dig_zero]
      subst hl
      have HA := (box_new w1 pA xA lA kA).next b2
      have RA2 := (RA.below (one_below _ _)).below b2
      have B2 := on (on b1 (one_below _ _)) b2
      have s1 := b1.size
      clear b1 b2 RA RB
      have HS := Lib.hid HA
      obtain ⟨t0, t1, t2, t3, t4⟩ := HA
      have RA3 := (RA2.abs.put0 t0 (.bool false)).below (one_below _ (.cells #[.bool pB, .slice xB 0 kB] 59))
      have B3 : Below w.heap.size w (w2.setCell ⟨w1.heap.size, 0, none⟩ (.bool false)) := B2.setCell (by show w.heap.size ≤ w1.heap.size; omega) _
      go_wp2_with fail
      with_reducible refine (short_rep _ _ _ RA3).mono ?_
      rintro e w3 ⟨rfl, b3⟩
      have B4 := on (on B3 (one_below _ _)) b3
      clear b3 RA3 RA2 B3 B2 HS t0 t1 t2 t3 t4
      go_wp2
      go_ret2
      exact ⟨rfl, B4⟩
    · have hlB : Hid ((dig b.natAbs).length ≠ 0) := by
        have := dig_len_pos (n := b.natAbs)
        show _ ≠ _
        have h2 := this.2 (by omega)
        omega
      by_cases hsp : a = -9223372036854775808 ∧ b = -1
      · obtain ⟨ea, eb⟩ := hsp
        have e1 : (a == -9223372036854775808) = true := by simp [ea]
        have e2 : (b == -1) = true := by simp [eb]
        have hg : ((a.gcd b : Nat) : Int) = 1 := by rw [ea, eb]; decide
        rw [hg, show fit 1 = 1 by decide, show fitB 1 = true by decide]
        clear ea eb hg h0 IH
        go_enter Tryd.func38, Tryd.ntmps38
        go_wp2_with fail
        with_reducible refine (of_any a ha _).mono ?_
        rintro e w1 ⟨⟨v, rfl, Q⟩, b1⟩
        obtain ⟨pA, xA, lA, kA, rfl, RA⟩ := Q.form
        go_wp2_with fail
        with_reducible refine (of_any b hb _).mono ?_
        rintro e w2 ⟨⟨v, rfl, Q⟩, b2⟩
        obtain ⟨pB, xB, lB, kB, rfl, RB⟩ := Q.form
        have hl : lB ≠ 0 := by rw [RB.parts.2.1]; exact hlB.out
        have hl' : ((lB : Int) == 0) = false := by simp; omega
        have B2 := on (on b1 (one_below _ _)) b2
        clear b1 b2 RA RB hl
        go_wp2
        go_ret2
        exact ⟨rfl, B2.alloc B2.size _⟩
      · obtain ⟨i1, i2⟩ := tmod_in (a := a) hb h0
        have C := fun W => IH.out (a.tmod b).natAbs (by omega) b (a.tmod b) (Nat.le_refl _) hb i1 W
        rw [gcd_step] at C
        have HC := Lib.hid C
        clear C IH i1 i2
        obtain ⟨sa, hsa⟩ : ∃ s, (a == -9223372036854775808) = s := ⟨_, rfl⟩
        obtain ⟨sb, hsb⟩ : ∃ s, (b == -1) = s := ⟨_, rfl⟩
        have hss : (sa && sb) = false := by
          rw [← hsa, ← hsb]
          by_cases ea : a = -9223372036854775808
          · have : b ≠ -1 := fun eb => hsp ⟨ea, eb⟩
            simp [ea, this]
          · simp [ea]
        clear hsp
        cases sa <;> cases sb <;> simp at hss
        all_goals
          go_enter Tryd.func38, Tryd.ntmps38
          go_wp2_with fail
          with_reducible refine (of_any a ha _).mono ?_
          rintro e w1 ⟨⟨v, rfl, Q⟩, b1⟩
          obtain ⟨pA, xA, lA, kA, rfl, RA⟩ := Q.form
          go_wp2_with fail
          with_reducible refine (of_any b hb _).mono ?_
          rintro e w2 ⟨⟨v, rfl, Q⟩, b2⟩
          obtain ⟨pB, xB, lB, kB, rfl, RB⟩ := Q.form
          have hl : lB ≠ 0 := by rw [RB.parts.2.1]; exact hlB.out
          have hl' : ((lB : Int) == 0) = false := by simp; omega
          have B2 := on (on b1 (one_below _ _)) b2
          clear b1 b2 RA RB hl
          go_wp2_with fail
          with_reducible refine (HC.out _).mono ?_
          rintro e w3 ⟨rfl, b3⟩
          have B3 := on (on B2 (one_below _ _)) b3
          clear b3
          go_wp2
          go_ret2
          exact ⟨rfl, B3⟩
theorem rgcd_any (a b : Int) (ha : I64 a) (hb : I64 b) (w : World) :
    Calls Tryd.prog 38 #[.int .i64 a, .int .i64 b] w fun e w' => e = .returned (.tuple #[.int .i64 (fit (a.gcd b)), .bool (fitB (a.gcd b))]) ∧ Below w.heap.size w w' :=
  rgcd_all b.natAbs a b (Nat.le_refl _) ha hb w
end Go.Proofs.YtjaabjehegcnaaaDoor
