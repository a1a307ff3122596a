/-
  What each call of the document's own numbers (package secateurref01) does, fifth part: Add of unlike signs, and of all.
-/
import Derived.Test.YtjaabjehegcnaaaDoorBigWalks4
namespace Go.Proofs.YtjaabjehegcnaaaDoor
set_option maxRecDepth 100000
open Go.RowKit

set_option maxHeartbeats 4000000 in
theorem add_diff (p q : Bool) (hpq : (p != q) = true) (x y : Option Addr) (c1 c2 m n : Nat) (hmn : n ≤ m) (w : World) (h1 : Digs w x c1 (dig m)) (h2 : Digs w y c2 (dig n)) (l1 : (dig m).length ≤ 1000) :
    Calls Tryd.prog 51 #[.agg #[.bool p, .slice x (dig m).length c1], .agg #[.bool q, .slice y (dig n).length c2]] w fun e w' => (∃ v, e = .returned v ∧ Rep w' v (sgn p (m - n))) ∧ Below w.heap.size w w' := by
  obtain ⟨i0, hi, hz0, hz1, hz2⟩ := info_parts infoU
  have hpq' : (!p == q) = true := by revert hpq; cases p <;> cases q <;> simp
  have F := far_any p q x y c1 c2 m n
  have hf : ¬ cmp3 (m : Int) (n : Int) < 0 := by unfold cmp3; (repeat' split) <;> omega
  obtain ⟨f, hfe⟩ : ∃ f, cmp3 (m : Int) (n : Int) = f := ⟨_, rfl⟩
  rw [hfe] at hf F
  obtain ⟨la, hla⟩ : ∃ l, (dig m).length = l := ⟨_, rfl⟩
  obtain ⟨lb, hlb⟩ : ∃ l, (dig n).length = l := ⟨_, rfl⟩
  obtain ⟨k1, k2⟩ := h1.cap_ok
  obtain ⟨k3, k4⟩ := h2.cap_ok
  unfold maxLen at k2 k4
  rw [hla] at l1 k1 F
  rw [hlb] at k3 F
  rw [hla, hlb]
  have LA := Lib.hid hla
  have LB := Lib.hid hlb
  have K := Lib.hid F
  have hfd : decide (f < 0) = false := by simpa using hf
  clear hla hlb hfe F hf
  go_enter Tryd.func51, Tryd.ntmps51
  go_wp2_with fail
  with_reducible refine (K.out _ (h1.below (three_below w _ _ _)) (h2.below (three_below w _ _ _))).mono ?_
  rintro e w1 ⟨rfl, hb1⟩
  have hs1 := hb1.size
  simp only [World.size_alloc] at hs1
  have B1 : Below w.heap.size w w1 := on (three_below w _ _ _) hb1
  have h1 : Digs w1 x c1 (dig m) := h1.below B1
  have h2 : Digs w1 y c2 (dig n) := h2.below B1
  have FR : Fresh (w.heap.size + 2) w1 := (fresh_three w _ _).next hb1
  have q0 : w1.cell? ⟨w.heap.size, 0, none⟩ = some (.bool p) := by rw [hb1.cell (by simp; omega)]; simp [go_sem]
  have q1 : w1.cell? ⟨w.heap.size, 1, none⟩ = some (.slice x la c1) := by rw [hb1.cell (by simp; omega)]; simp [go_sem]
  have q2 : w1.cell? ⟨w.heap.size + 1, 0, none⟩ = some (.bool q) := by rw [hb1.cell (by simp)]; simp [go_sem]
  have q3 : w1.cell? ⟨w.heap.size + 1, 1, none⟩ = some (.slice y lb c2) := by rw [hb1.cell (by simp)]; simp [go_sem]
  clear hb1 K
  go_wp2

  go_loopw [6, 7, 8] (fun d cr i wr => ∃ k c : Nat, k ≤ la ∧ i = .int .i64 k ∧ cr = .int .u64 c ∧ Hid (SubAt m n k c) ∧ c ≤ 1 ∧ wr.ownsRow w1.heap.size 78 1 d k ((low (m - n) k).map cellU) ∧ Below w1.heap.size w1 wr) (fun _ _ i _ => la - (intOf i).toNat)
  case atStart => exact ⟨0, 0, by omega, rfl, rfl, SubAt.start hmn, by omega, World.ownsRow_nil _ _ _ _, Below.refl _ _⟩
  case round =>
    obtain ⟨k, c, hk, rfl, rfl, hA, hc1, hown, hbel⟩ := hrel
    have hsz := hbel.size
    have q0 : wr.cell? ⟨w.heap.size, 0, none⟩ = some (.bool p) := by rw [hbel.cell (by show w.heap.size < _; omega)]; exact q0
    have q1 : wr.cell? ⟨w.heap.size, 1, none⟩ = some (.slice x la c1) := by rw [hbel.cell (by show w.heap.size < _; omega)]; exact q1
    have q2 : wr.cell? ⟨w.heap.size + 1, 0, none⟩ = some (.bool q) := by rw [hbel.cell (by show w.heap.size + 1 < _; omega)]; exact q2
    have q3 : wr.cell? ⟨w.heap.size + 1, 1, none⟩ = some (.slice y lb c2) := by rw [hbel.cell (by show w.heap.size + 1 < _; omega)]; exact q3
    obtain ⟨da, hda⟩ : ∃ d, m / 65536 ^ k % 65536 = d := ⟨_, rfl⟩
    obtain ⟨db, hdb⟩ : ∃ d, n / 65536 ^ k % 65536 = d := ⟨_, rfl⟩
    have HS := Lib.hid (hA.out.step hda hdb)
    have wa : da < 65536 := by omega
    have wb : db < 65536 := by omega
    have Ha := Lib.hid ((dig_get m k).trans hda)
    have Hb := Lib.hid ((dig_get n k).trans hdb)
    have ZB : Hid (lb ≤ k → db = 0) := fun h => by rw [← hdb, dig_out (by rw [LB.out]; exact h)]
    clear hda hdb
    by_cases hka' : k < la
    · have hka : k < (dig m).length := by rw [LA.out]; exact hka'
      obtain ⟨ba, hxa, hba, _, _, hca⟩ := Digs.at h1 hka
      subst hxa
      have ga : wr.cell? ⟨ba, k, none⟩ = some (.int .u64 ((da : Nat) : Int)) := by rw [hbel.cell (by show ba < _; omega), hca, Ha.out]
      clear hA
      by_cases hkb' : k < lb
      · have hkb : k < (dig n).length := by rw [LB.out]; exact hkb'
        by_cases hlt : da < c + db
        ·
          obtain ⟨bb, hxb, hbb, _, _, hcb⟩ := Digs.at h2 hkb
          subst hxb
          have gb : wr.cell? ⟨bb, k, none⟩ = some (.int .u64 ((db : Nat) : Int)) := by rw [hbel.cell (by show bb < _; omega), hcb, Hb.out]
          obtain ⟨hs1, hs2, hs3⟩ := HS.out.1 hlt
          obtain ⟨t, ht⟩ : ∃ t, da + 65536 - (c + db) = t := ⟨_, rfl⟩
          have hti : da + 65536 = t + (c + db) := by omega
          have HT := Lib.hid (ht.symm.trans hs3)
          have hA' := Lib.hid hs1
          clear ht hs1 hs3 HS
          have HTI := Lib.hid hti
          have hle : c + db ≤ da + 65536 := by omega
          clear hti
          go_wp2_with (at_builtin; refine wpList_append_own _ rfl _ _ 57 rfl w1.heap.size 78 i0 (.int .u64 0) 1 8 Tryd.underlying57 hi hz0 hz1 hz2 rfl (by decide) _ _ _ rfl (hown.alloc _) ⟨wr.heap.size, 0, none⟩ 1 1 [cellU t] rfl rfl ?q1a ?q1b ?q1c ?q1d ?q1e ?_)
          case q1a => first | exact one_cell (by have := HTI.out; simp [cellU]; omega) | (intro j v hj; match j, hj with | 0, hj => simp at hj; subst hj; have := HTI.out; simp [cellU]; omega)
          case q1b => first | exact one_ok _ | rfl
          case q1c => unfold maxLen; omega
          case q1d => omega
          case q1e => first | omega | (simp; omega)
          · intro v' w2 hown' hgrow _
            have R := low_step hown hown' hgrow hbel hsz HT.out
            clear hown hown' hgrow hbel
            go_wp2
            go_roundw
            case rel => exact ⟨k + 1, 1, by omega, by go_num, by go_num, hA', by omega, R.1, R.2⟩
            case measure => simp [intOf]; omega
        ·
          obtain ⟨bb, hxb, hbb, _, _, hcb⟩ := Digs.at h2 hkb
          subst hxb
          have gb : wr.cell? ⟨bb, k, none⟩ = some (.int .u64 ((db : Nat) : Int)) := by rw [hbel.cell (by show bb < _; omega), hcb, Hb.out]
          obtain ⟨hs1, hs3⟩ := HS.out.2 hlt
          obtain ⟨t, ht⟩ : ∃ t, da - (c + db) = t := ⟨_, rfl⟩
          have hti : da = t + (c + db) := by omega
          have HT := Lib.hid (ht.symm.trans hs3)
          have hA' := Lib.hid hs1
          clear ht hs1 hs3 HS
          have HTI := Lib.hid hti
          have hle : c + db ≤ da := by omega
          clear hti
          go_wp2_with (at_builtin; refine wpList_append_own _ rfl _ _ 57 rfl w1.heap.size 78 i0 (.int .u64 0) 1 8 Tryd.underlying57 hi hz0 hz1 hz2 rfl (by decide) _ _ _ rfl (hown.alloc _) ⟨wr.heap.size, 0, none⟩ 1 1 [cellU t] rfl rfl ?q2a ?q2b ?q2c ?q2d ?q2e ?_)
          case q2a => first | exact one_cell (by have := HTI.out; simp [cellU]; omega) | (intro j v hj; match j, hj with | 0, hj => simp at hj; subst hj; have := HTI.out; simp [cellU]; omega)
          case q2b => first | exact one_ok _ | rfl
          case q2c => unfold maxLen; omega
          case q2d => omega
          case q2e => first | omega | (simp; omega)
          · intro v' w2 hown' hgrow _
            have R := low_step hown hown' hgrow hbel hsz HT.out
            clear hown hown' hgrow hbel
            go_wp2
            go_roundw
            case rel => exact ⟨k + 1, 0, by omega, by go_num, by go_num, hA', by omega, R.1, R.2⟩
            case measure => simp [intOf]; omega
      · have zb : db = 0 := ZB.out (by omega)
        subst zb
        simp only [Nat.add_zero] at HS
        by_cases hlt : da < c
        ·
          obtain ⟨hs1, hs2, hs3⟩ := HS.out.1 hlt
          obtain ⟨t, ht⟩ : ∃ t, da + 65536 - (c) = t := ⟨_, rfl⟩
          have hti : da + 65536 = t + (c) := by omega
          have HT := Lib.hid (ht.symm.trans hs3)
          have hA' := Lib.hid hs1
          clear ht hs1 hs3 HS
          have HTI := Lib.hid hti
          have hle : c ≤ da + 65536 := by omega
          clear hti
          go_wp2_with (at_builtin; refine wpList_append_own _ rfl _ _ 57 rfl w1.heap.size 78 i0 (.int .u64 0) 1 8 Tryd.underlying57 hi hz0 hz1 hz2 rfl (by decide) _ _ _ rfl (hown.alloc _) ⟨wr.heap.size, 0, none⟩ 1 1 [cellU t] rfl rfl ?q3a ?q3b ?q3c ?q3d ?q3e ?_)
          case q3a => first | exact one_cell (by have := HTI.out; simp [cellU]; omega) | (intro j v hj; match j, hj with | 0, hj => simp at hj; subst hj; have := HTI.out; simp [cellU]; omega)
          case q3b => first | exact one_ok _ | rfl
          case q3c => unfold maxLen; omega
          case q3d => omega
          case q3e => first | omega | (simp; omega)
          · intro v' w2 hown' hgrow _
            have R := low_step hown hown' hgrow hbel hsz HT.out
            clear hown hown' hgrow hbel
            go_wp2
            go_roundw
            case rel => exact ⟨k + 1, 1, by omega, by go_num, by go_num, hA', by omega, R.1, R.2⟩
            case measure => simp [intOf]; omega
        ·
          obtain ⟨hs1, hs3⟩ := HS.out.2 hlt
          obtain ⟨t, ht⟩ : ∃ t, da - (c) = t := ⟨_, rfl⟩
          have hti : da = t + (c) := by omega
          have HT := Lib.hid (ht.symm.trans hs3)
          have hA' := Lib.hid hs1
          clear ht hs1 hs3 HS
          have HTI := Lib.hid hti
          have hle : c ≤ da := by omega
          clear hti
          go_wp2_with (at_builtin; refine wpList_append_own _ rfl _ _ 57 rfl w1.heap.size 78 i0 (.int .u64 0) 1 8 Tryd.underlying57 hi hz0 hz1 hz2 rfl (by decide) _ _ _ rfl (hown.alloc _) ⟨wr.heap.size, 0, none⟩ 1 1 [cellU t] rfl rfl ?q4a ?q4b ?q4c ?q4d ?q4e ?_)
          case q4a => first | exact one_cell (by have := HTI.out; simp [cellU]; omega) | (intro j v hj; match j, hj with | 0, hj => simp at hj; subst hj; have := HTI.out; simp [cellU]; omega)
          case q4b => first | exact one_ok _ | rfl
          case q4c => unfold maxLen; omega
          case q4d => omega
          case q4e => first | omega | (simp; omega)
          · intro v' w2 hown' hgrow _
            have R := low_step hown hown' hgrow hbel hsz HT.out
            clear hown hown' hgrow hbel
            go_wp2
            go_roundw
            case rel => exact ⟨k + 1, 0, by omega, by go_num, by go_num, hA', by omega, R.1, R.2⟩
            case measure => simp [intOf]; omega
    · have hva := dig_out (m := m) (k := k) (by rw [LA.out]; omega)
      have ez := hA.out.done hva
      obtain ⟨xd, cd, rfl, hD⟩ := digs_of_owns (ds := low (m - n) k) (by rw [low_len]; exact hown)
      have T := trim_any p xd cd (low (m - n) k) wr hD (low_Dg _ _)
      rw [low_len, ez] at T
      have K := Lib.hid T
      have FR := FR.next hbel
      have B0 : Below w.heap.size w wr := on B1 hbel
      clear T ez hown hbel hD HS hva
      go_wp2_with fail
      rw [low_len]
      with_reducible refine K.out.mono ?_
      rintro e w2 ⟨⟨v, rfl, hR⟩, hb2⟩
      obtain ⟨x2, cap2, rfl, hD2⟩ := hR
      obtain ⟨c0, c1', f0, f1, hs⟩ := FR.next hb2
      have B2 := on B0 hb2
      clear K B0 hb2 FR
      go_wp2
      exact bodyPost_ret (v := .agg #[.bool (decide (sgn p (m - n) < 0)), .slice x2 (dig (sgn p (m - n)).natAbs).length cap2]) (by simp [results, Tryd.results51, go_sem, c0, c1']) rfl ⟨⟨_, rfl, x2, cap2, rfl, hD2.store c0 _ _⟩, Below.store B2 (by omega) _ _⟩

set_option maxHeartbeats 1000000 in
theorem add_swap (p q : Bool) (hpq : (p != q) = true) (x y : Option Addr) (c1 c2 m n : Nat) (hmn : m < n) (w : World) (h1 : Digs w x c1 (dig m)) (h2 : Digs w y c2 (dig n)) (l2 : (dig n).length ≤ 1000) :
    Calls Tryd.prog 51 #[.agg #[.bool p, .slice x (dig m).length c1], .agg #[.bool q, .slice y (dig n).length c2]] w fun e w' => (∃ v, e = .returned v ∧ Rep w' v (sgn q (n - m))) ∧ Below w.heap.size w w' := by
  have hpq' : (!p == q) = true := by revert hpq; cases p <;> cases q <;> simp
  have hqp : (q != p) = true := by revert hpq; cases p <;> cases q <;> simp
  have F := far_any p q x y c1 c2 m n
  have G := fun W a b => add_diff q p hqp y x c2 c1 n m (by omega) W a b l2
  have hf : cmp3 (m : Int) (n : Int) = -1 := by unfold cmp3; rw [if_pos (by omega)]
  rw [hf] at F
  obtain ⟨la, hla⟩ : ∃ l, (dig m).length = l := ⟨_, rfl⟩
  obtain ⟨lb, hlb⟩ : ∃ l, (dig n).length = l := ⟨_, rfl⟩
  rw [hla, hlb] at F G
  rw [hla, hlb]
  have K := Lib.hid F
  have J := Lib.hid G
  clear hla hlb F G hf l2
  go_enter Tryd.func51, Tryd.ntmps51
  go_wp2_with fail
  with_reducible refine (K.out _ (h1.below (three_below w _ _ _)) (h2.below (three_below w _ _ _))).mono ?_
  rintro e w1 ⟨rfl, hb1⟩
  have hs1 := hb1.size
  simp only [World.size_alloc] at hs1
  have B1 : Below w.heap.size w w1 := on (three_below w _ _ _) hb1
  have h1 : Digs w1 x c1 (dig m) := h1.below B1
  have h2 : Digs w1 y c2 (dig n) := h2.below B1
  have FR : Fresh (w.heap.size + 2) w1 := (fresh_three w _ _).next hb1
  have q0 : w1.cell? ⟨w.heap.size, 0, none⟩ = some (.bool p) := by rw [hb1.cell (by simp; omega)]; simp [go_sem]
  have q1 : w1.cell? ⟨w.heap.size, 1, none⟩ = some (.slice x la c1) := by rw [hb1.cell (by simp; omega)]; simp [go_sem]
  have q2 : w1.cell? ⟨w.heap.size + 1, 0, none⟩ = some (.bool q) := by rw [hb1.cell (by simp)]; simp [go_sem]
  have q3 : w1.cell? ⟨w.heap.size + 1, 1, none⟩ = some (.slice y lb c2) := by rw [hb1.cell (by simp)]; simp [go_sem]
  clear hb1 K
  go_wp2_with fail
  with_reducible refine (J.out _ h2 h1).mono ?_
  rintro e w2 ⟨⟨v, rfl, hR⟩, hb2⟩
  obtain ⟨x2, cap2, rfl, hD2⟩ := hR
  obtain ⟨c0, c1', f0, f1, hs⟩ := FR.next hb2
  have B2 := on B1 hb2
  clear J hb2 FR q0 q1 q2 q3
  go_wp2
  exact bodyPost_ret (v := .agg #[.bool (decide (sgn q (n - m) < 0)), .slice x2 (dig (sgn q (n - m)).natAbs).length cap2]) (by simp [results, Tryd.results51, go_sem, c0, c1']) rfl ⟨⟨_, rfl, x2, cap2, rfl, hD2.store c0 _ _⟩, Below.store B2 (by omega) _ _⟩

/-- The number of a number's digits is small enough. -/
def Few (z : Int) : Prop := (dig z.natAbs).length ≤ 1000
theorem few_of {z : Int} (k : Nat) (hk : k ≤ 1000) (h : z.natAbs < 65536 ^ k) : Few z := Nat.le_trans (dig_len_le h) hk

/-- Add: the sum. -/
theorem radd_rep (a b : Int) (u v : Value) (w : World) (h1 : Rep w u a) (h2 : Rep w v b) (l1 : Few a) (l2 : Few b) :
    Calls Tryd.prog 51 #[u, v] w fun e w' => (∃ v, e = .returned v ∧ Rep w' v (a + b)) ∧ Below w.heap.size w w' := by
  obtain ⟨x, c1, rfl, h1⟩ := h1
  obtain ⟨y, c2, rfl, h2⟩ := h2
  by_cases hs : decide (a < 0) = decide (b < 0)
  · have h := add_same (decide (a < 0)) x y c1 c2 a.natAbs b.natAbs w h1 h2 l1 l2
    rw [show sgn (decide (a < 0)) (a.natAbs + b.natAbs) = a + b by
      unfold sgn
      by_cases ha : a < 0 <;> by_cases hb : b < 0 <;> simp [ha, hb] at hs ⊢ <;> omega] at h
    rw [← hs]
    exact h
  · have hpq : (decide (a < 0) != decide (b < 0)) = true := by simpa using hs
    by_cases hle : b.natAbs ≤ a.natAbs
    · have h := add_diff (decide (a < 0)) (decide (b < 0)) hpq x y c1 c2 a.natAbs b.natAbs hle w h1 h2 l1
      rw [show sgn (decide (a < 0)) (a.natAbs - b.natAbs) = a + b by
        unfold sgn
        by_cases ha : a < 0 <;> by_cases hb : b < 0 <;> simp [ha, hb] at hs ⊢ <;> omega] at h
      exact h
    · have h := add_swap (decide (a < 0)) (decide (b < 0)) hpq x y c1 c2 a.natAbs b.natAbs (by omega) w h1 h2 l2
      rw [show sgn (decide (b < 0)) (b.natAbs - a.natAbs) = a + b by
        unfold sgn
        by_cases ha : a < 0 <;> by_cases hb : b < 0 <;> simp [ha, hb] at hs ⊢ <;> omega] at h
      exact h
end Go.Proofs.YtjaabjehegcnaaaDoor
