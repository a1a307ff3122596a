/-
  What each call of the document's own numbers (package secateurref01) does, sixth part: Mul.
-/
import Derived.Test.YtjaabjehegcnaaaDoorBigWalks5
namespace Go.Proofs.YtjaabjehegcnaaaDoor
set_option maxRecDepth 100000
open Go.RowKit

theorem made_zeros (n : Nat) : (madeCells (Value.int .u64 0).cells (n * 1)).toList = (List.replicate n 0).map cellU := by
  apply List.ext_getElem
  · simp [madeCells]
  · intro i h1 h2
    simp [madeCells, cellU, Value.cells, Nat.mod_one]

/-- A row of the call's own, with a place read and a place written. -/
theorem row_get {w : World} {base g N j : Nat} {D : List Nat} (h : w.ownsRow base 78 1 (.slice (some ⟨g, 0, none⟩) N N) N (D.map cellU)) (hj : j < N) :
    w.cell? ⟨g, j, none⟩ = some (.int .u64 ((D.getD j 0 : Nat) : Int)) := by
  have hl : D.length = N := by have := h.1; simpa using this
  rw [h.cellAt j (by omega)]
  simp [cellU, List.getD_eq_getElem?_getD, hl, hj]
theorem row_put {w : World} {base g N : Nat} {D : List Nat} (h : w.ownsRow base 78 1 (.slice (some ⟨g, 0, none⟩) N N) N (D.map cellU)) (j v : Nat) (nq : Nat) :
    ((w.drewN nq).setCell ⟨g, j, none⟩ (.int .u64 (v : Int))).ownsRow base 78 1 (.slice (some ⟨g, 0, none⟩) N N) N ((D.set j v).map cellU) := by
  have h' : (w.drewN nq).ownsRow base 78 1 (.slice (some ⟨g, 0, none⟩) N N) N (D.map cellU) := h
  have := (h'.stored j (cellU v)).1
  rw [List.map_set]; exact this

theorem row_put' {w : World} {base g N : Nat} {D : List Nat} {z : Int} (h : w.ownsRow base 78 1 (.slice (some ⟨g, 0, none⟩) N N) N (D.map cellU)) (j v : Nat) (nq : Nat) (hz : z = (v : Int)) :
    ((w.drewN nq).setCell ⟨g, j, none⟩ (.int .u64 z)).ownsRow base 78 1 (.slice (some ⟨g, 0, none⟩) N N) N ((D.set j v).map cellU) := by
  subst hz; exact row_put h j v nq
theorem row_put0 {w : World} {base g N : Nat} {D : List Nat} {z : Int} (h : w.ownsRow base 78 1 (.slice (some ⟨g, 0, none⟩) N N) N (D.map cellU)) (j v : Nat) (hz : z = (v : Int)) :
    (w.setCell ⟨g, j, none⟩ (.int .u64 z)).ownsRow base 78 1 (.slice (some ⟨g, 0, none⟩) N N) N ((D.set j v).map cellU) := by
  subst hz; rw [List.map_set]; exact (h.stored j (cellU v)).1

set_option maxHeartbeats 4000000 in
theorem mul_mag (p q : Bool) (x y : Option Addr) (c1 c2 m n : Nat) (w : World) (h1 : Digs w x c1 (dig m)) (h2 : Digs w y c2 (dig n)) (l1 : (dig m).length ≤ 1000) (l2 : (dig n).length ≤ 1000) :
    Calls Tryd.prog 50 #[.agg #[.bool p, .slice x (dig m).length c1], .agg #[.bool q, .slice y (dig n).length c2]] w fun e w' => (∃ v, e = .returned v ∧ Rep w' v (sgn (!(p == q)) (m * n))) ∧ Below w.heap.size w w' := by
  obtain ⟨i0, hi, hz0, hz1, hz2⟩ := info_parts infoU
  obtain ⟨la, hla⟩ : ∃ l, (dig m).length = l := ⟨_, rfl⟩
  obtain ⟨lb, hlb⟩ : ∃ l, (dig n).length = l := ⟨_, rfl⟩
  obtain ⟨k1, k2⟩ := h1.cap_ok
  obtain ⟨k3, k4⟩ := h2.cap_ok
  unfold maxLen at k2 k4
  rw [hla] at l1 k1
  rw [hlb] at l2 k3
  rw [hla, hlb]
  have LA := Lib.hid hla
  have LB := Lib.hid hlb
  clear hla hlb
  obtain ⟨W4, hmk, hown0, hgr⟩ := run_make_full (P := Tryd.prog) (((w.alloc (.cells #[.bool p, .slice x la c1] 59)).alloc (.cells #[.bool q, .slice y lb c2] 59)).alloc (.cells #[.bool false, .slice none 0 0] 59)) (w.heap.size + 3) 57 78 i0 (.int .u64 0) 1 Tryd.underlying57 hi hz0 hz1 .i64 .i64 (la + lb + 1) (by rw [hz2]; omega) (by unfold maxLen; omega) (by simp)
  have eN : ((la + lb + 1 : Nat) : Int) = (la : Int) + (lb : Int) + 1 := by omega
  have eS : (((w.alloc (.cells #[.bool p, .slice x la c1] 59)).alloc (.cells #[.bool q, .slice y lb c2] 59)).alloc (.cells #[.bool false, .slice none 0 0] 59)).heap.size = w.heap.size + 3 := by simp
  rw [eN, eS] at hmk
  rw [eS, made_zeros] at hown0
  have hb4 : Below (w.heap.size + 3) (((w.alloc (.cells #[.bool p, .slice x la c1] 59)).alloc (.cells #[.bool q, .slice y lb c2] 59)).alloc (.cells #[.bool false, .slice none 0 0] 59)) W4 :=
    (Below.refl _ _).grown hgr (by simp) (fun k hk => by cases hk)
  have HO := Lib.hid hown0
  clear hown0 hgr eN eS
  have hs4 := hb4.size
  simp only [World.size_alloc] at hs4
  have q0 : W4.cell? ⟨w.heap.size, 0, none⟩ = some (.bool p) := by rw [hb4.cell (by simp)]; simp [go_sem]
  have q1 : W4.cell? ⟨w.heap.size, 1, none⟩ = some (.slice x la c1) := by rw [hb4.cell (by simp)]; simp [go_sem]
  have q2 : W4.cell? ⟨w.heap.size + 1, 0, none⟩ = some (.bool q) := by rw [hb4.cell (by simp)]; simp [go_sem]
  have q3 : W4.cell? ⟨w.heap.size + 1, 1, none⟩ = some (.slice y lb c2) := by rw [hb4.cell (by simp)]; simp [go_sem]
  have FR : Fresh (w.heap.size + 2) W4 := (fresh_three w _ _).below hb4 (by omega)
  have B4 : Below w.heap.size w W4 := (three_below w _ _ _).trans (hb4.mono (by omega))
  have h1w := h1
  have h2w := h2
  clear h1 h2
  obtain ⟨N, hN⟩ : ∃ N, la + lb + 1 = N := ⟨_, rfl⟩
  have hNle : la + lb < N := by omega
  have hNle2 : N ≤ 2001 := by omega
  rw [hN] at hmk HO
  have HNe := Lib.hid hN
  clear hN hb4
  go_enter Tryd.func50, Tryd.ntmps50
  go_wp2
  go_loopw [6] (fun ii wr => ∃ (i : Nat) (D : List Nat), i ≤ la ∧ ii = .int .i64 i ∧ D.length = N ∧ Dg D ∧ Hid (val D = (m % 65536 ^ i) * n) ∧ wr.ownsRow (w.heap.size + 3) 78 1 (.slice (some ⟨w.heap.size + 3, 0, none⟩) N N) N (D.map cellU) ∧ Below (w.heap.size + 3) W4 wr) (fun ii _ => la - (intOf ii).toNat)
  case atStart => exact ⟨0, List.replicate N 0, by omega, rfl, by simp, Dg_zeros N, by show _ = _; rw [val_zeros]; simp [Nat.mod_one], HO.out, Below.refl _ _⟩
  case round =>
    obtain ⟨i, D, hi', rfl, hDl, hDg, hV, hown, hbel⟩ := hrel
    have r1 : wr.cell? ⟨w.heap.size, 1, none⟩ = some (.slice x la c1) := by rw [hbel.cell (by show w.heap.size < _; omega)]; exact q1
    have r0 : wr.cell? ⟨w.heap.size, 0, none⟩ = some (.bool p) := by rw [hbel.cell (by show w.heap.size < _; omega)]; exact q0
    have r2 : wr.cell? ⟨w.heap.size + 1, 0, none⟩ = some (.bool q) := by rw [hbel.cell (by show w.heap.size + 1 < _; omega)]; exact q2
    have r3 : wr.cell? ⟨w.heap.size + 1, 1, none⟩ = some (.slice y lb c2) := by rw [hbel.cell (by show w.heap.size + 1 < _; omega)]; exact q3
    by_cases hia' : i < la
    · have hia : i < (dig m).length := by rw [LA.out]; exact hia'
      obtain ⟨ba, hxa, hba, _, _, hca⟩ := Digs.at h1w hia
      subst hxa
      obtain ⟨da, hda⟩ : ∃ d, m / 65536 ^ i % 65536 = d := ⟨_, rfl⟩
      have wa : da < 65536 := by omega
      rw [dig_get m i, hda] at hca
      have hca4 : W4.cell? ⟨ba, i, none⟩ = some (.int .u64 ((da : Nat) : Int)) := by rw [B4.cell (by exact hba)]; exact hca
      have Hda := Lib.hid hda
      clear hda
      have HDL := Lib.hid hDl
      clear hDl
      go_wp2
      go_loopw [7, 8] (fun cr kk wr2 => ∃ (k c : Nat) (D2 : List Nat), k ≤ lb + 1 ∧ kk = .int .i64 k ∧ cr = .int .u64 c ∧ c < 65536 ∧ D2.length = N ∧ Dg D2 ∧ Hid (MulAt D2 m n i k c) ∧ wr2.ownsRow (w.heap.size + 3) 78 1 (.slice (some ⟨w.heap.size + 3, 0, none⟩) N N) N (D2.map cellU) ∧ Below (w.heap.size + 3) W4 wr2) (fun _ kk _ => lb + 2 - (intOf kk).toNat)
      case atStart => exact ⟨0, 0, D, by omega, rfl, rfl, by omega, HDL.out, hDg, MulAt.start hV.out, hown, hbel⟩
      case round =>
        obtain ⟨k, c, D2, hk, rfl, rfl, hc, hD2l, hD2g, hA, hown2, hbel2⟩ := hrel
        have s0 : wr.cell? ⟨w.heap.size, 0, none⟩ = some (.bool p) := by rw [hbel2.cell (by show w.heap.size < _; omega)]; exact q0
        have s1 : wr.cell? ⟨w.heap.size, 1, none⟩ = some (.slice (some ⟨ba, 0, none⟩) la c1) := by rw [hbel2.cell (by show w.heap.size < _; omega)]; exact q1
        have s2 : wr.cell? ⟨w.heap.size + 1, 0, none⟩ = some (.bool q) := by rw [hbel2.cell (by show w.heap.size + 1 < _; omega)]; exact q2
        have s3 : wr.cell? ⟨w.heap.size + 1, 1, none⟩ = some (.slice y lb c2) := by rw [hbel2.cell (by show w.heap.size + 1 < _; omega)]; exact q3
        have ga : wr.cell? ⟨ba, i, none⟩ = some (.int .u64 ((da : Nat) : Int)) := by rw [hbel2.cell (by show ba < _; omega)]; exact hca4
        by_cases hkb' : k < lb
        ·
          have hjN : i + k < N := by omega
          have gd := row_get hown2 hjN
          obtain ⟨d, hd⟩ : ∃ d, D2.getD (i + k) 0 = d := ⟨_, rfl⟩
          have hd1 : d < 65536 := by rw [← hd]; exact hD2g (i + k) (by omega)
          rw [hd] at gd
          have fd := hown2.frozenAt (i + k)
          have hkb : k < (dig n).length := by rw [LB.out]; exact hkb'
          obtain ⟨bb, hxb, hbb, _, _, hcb⟩ := Digs.at h2w hkb
          obtain ⟨db, hdb⟩ : ∃ d, n / 65536 ^ k % 65536 = d := ⟨_, rfl⟩
          have wb : db < 65536 := by omega
          subst hxb
          have gb : wr.cell? ⟨bb, k, none⟩ = some (.int .u64 ((db : Nat) : Int)) := by rw [hbel2.cell (by show bb < _; omega), B4.cell (by exact hbb), hcb, dig_get n k, hdb]
          have HS := Lib.hid (hA.out.step (by omega) hd Hda.out hdb)
          have hpb : da * db ≤ 65535 * 65535 := Nat.mul_le_mul (by omega) (by omega)
          obtain ⟨P, hP⟩ : ∃ P, da * db = P := ⟨_, rfl⟩
          rw [hP] at HS hpb
          have hw1 : IntKind.u64.wrap ((da : Int) * (db : Int)) = (P : Int) := by rw [IntKind.wrap_u64, ← Int.natCast_mul, hP]; omega
          have hw2 : IntKind.u64.wrap ((c : Int) + (d : Int) + (P : Int)) = (c : Int) + (d : Int) + (P : Int) := by rw [IntKind.wrap_u64]; omega
          clear hd hdb hP hcb
          go_wp2
          go_quiet (fail)
          go_wp2
          go_roundw
          case rel => exact ⟨k + 1, (c + d + P) / 65536, D2.set (i + k) ((c + d + P) % 65536), by omega, by go_num, by go_num, by omega, by simp [hD2l], hD2g.set (by omega) _, HS, row_put' hown2 _ _ _ (by omega), (below_drewN hbel2 _).setCell (by show w.heap.size + 3 ≤ w.heap.size + 3; omega) _⟩
          case measure => simp [intOf]; omega
        · by_cases hc0 : c = 0
          · subst hc0
            have hV2 : Hid (val D2 = (m % 65536 ^ (i + 1)) * n) := hA.out.done (by rw [LB.out]; exact Nat.le_refl _) (by omega)
            go_wp2
            go_roundw
            case rel => exact ⟨i + 1, D2, by omega, by go_num, hD2l, hD2g, hV2, hown2, hbel2⟩
            case measure => simp [intOf]; omega
          · have hcp : 0 < c := by omega
            have hkl : k ≤ lb := by
              by_cases hh : k ≤ lb
              · exact hh
              · exact absurd (hA.out.carry (lb := lb) (by rw [LB.out]; exact Nat.le_refl _) (by omega)) hc0
            have hjN : i + k < N := by omega
            have gd := row_get hown2 hjN
            obtain ⟨d, hd⟩ : ∃ d, D2.getD (i + k) 0 = d := ⟨_, rfl⟩
            have hd1 : d < 65536 := by rw [← hd]; exact hD2g (i + k) (by omega)
            rw [hd] at gd
            have fd := hown2.frozenAt (i + k)
            have hdn : n / 65536 ^ k % 65536 = 0 := by rw [dig_out (m := n) (k := k) (by rw [LB.out]; omega)]
            have HS := Lib.hid (hA.out.step (by omega) hd Hda.out hdn)
            simp only [Nat.mul_zero, Nat.add_zero] at HS
            clear hd hdn
            go_wp2
            go_roundw
            case rel => exact ⟨k + 1, (c + d) / 65536, D2.set (i + k) ((c + d) % 65536), by omega, by go_num, by go_num, by omega, by simp [hD2l], hD2g.set (by omega) _, HS, row_put0 hown2 _ _ (by omega), hbel2.setCell (by show w.heap.size + 3 ≤ w.heap.size + 3; omega) _⟩
            case measure => simp [intOf]; omega
    · obtain rfl : i = la := by omega
      have hml : m % 65536 ^ i = m := Nat.mod_eq_of_lt (by have := val_lt (Dg_dig m); rw [val_dig, LA.out] at this; exact this)
      have ez : val D = m * n := by rw [hV.out, hml]
      obtain ⟨xd, cd, he, hD⟩ := digs_of_owns (ds := D) (by rw [hDl]; exact hown)
      have hlen : D.length = N := hDl
      rw [hlen] at he
      have T := trim_any (!(p == q)) xd cd D wr hD hDg
      rw [ez, hlen, ← he] at T
      have K := Lib.hid T
      have FR := FR.below hbel (by omega)
      have B0 : Below w.heap.size w wr := B4.trans (hbel.mono (by omega))
      clear T ez hml hown hbel hD he hlen hDl
      go_wp2_with fail
      with_reducible refine K.out.mono ?_
      rintro e w2 ⟨⟨v, rfl, hR⟩, hb2⟩
      obtain ⟨x2, cap2, rfl, hD2⟩ := hR
      obtain ⟨c0, c1', f0, f1, hs⟩ := FR.next hb2
      have B2 := on B0 hb2
      clear K B0 hb2 FR
      go_wp2
      exact bodyPost_ret (v := .agg #[.bool (decide (sgn (!(p == q)) (m * n) < 0)), .slice x2 (dig (sgn (!(p == q)) (m * n)).natAbs).length cap2]) (by simp [results, Tryd.results50, go_sem, c0, c1']) rfl ⟨⟨_, rfl, x2, cap2, rfl, hD2.store c0 _ _⟩, Below.store B2 (by omega) _ _⟩

/-- Mul: the product. -/
theorem rmul_rep (a b : Int) (u v : Value) (w : World) (h1 : Rep w u a) (h2 : Rep w v b) (l1 : Few a) (l2 : Few b) :
    Calls Tryd.prog 50 #[u, v] w fun e w' => (∃ v, e = .returned v ∧ Rep w' v (a * b)) ∧ Below w.heap.size w w' := by
  obtain ⟨x, c1, rfl, h1⟩ := h1
  obtain ⟨y, c2, rfl, h2⟩ := h2
  have h := mul_mag (decide (a < 0)) (decide (b < 0)) x y c1 c2 a.natAbs b.natAbs w h1 h2 l1 l2
  rw [show sgn (!(decide (a < 0) == decide (b < 0))) (a.natAbs * b.natAbs) = a * b by
    unfold sgn
    rw [Int.natCast_mul]
    by_cases ha : a < 0 <;> by_cases hb : b < 0 <;> simp [ha, hb]
    · rw [show (a.natAbs : Int) = -a by omega, show (b.natAbs : Int) = -b by omega, Int.neg_mul_neg]
    · rw [show (a.natAbs : Int) = -a by omega, show (b.natAbs : Int) = b by omega, Int.neg_mul, Int.neg_neg]
    · rw [show (a.natAbs : Int) = a by omega, show (b.natAbs : Int) = -b by omega, Int.mul_neg, Int.neg_neg]
    · rw [show (a.natAbs : Int) = a by omega, show (b.natAbs : Int) = b by omega]] at h
  exact h
end Go.Proofs.YtjaabjehegcnaaaDoor
