/-
  What each call of the document's own numbers (package secateurref01) does, fourth part: Opposite, Add.
-/
import Derived.Test.YtjaabjehegcnaaaDoorBigWalks3
import Derived.Test.YtjaabjehegcnaaaDoorBigMath2
namespace Go.Proofs.YtjaabjehegcnaaaDoor
set_option maxRecDepth 100000
open Go.RowKit

/-- A result's own cell, still as it was made, behind calls that turn nothing. -/
structure Fresh (n : Nat) (w : World) : Prop where
  mk ::
  c0 : w.cell? ⟨n, 0, none⟩ = some (.bool false)
  c1 : w.cell? ⟨n, 1, none⟩ = some (.slice none 0 0)
  f0 : w.frozen? ⟨n, 0, none⟩ = false
  f1 : w.frozen? ⟨n, 1, none⟩ = false
  size : n < w.heap.size
theorem Fresh.below {n B : Nat} {w w' : World} (h : Fresh n w) (hb : Below B w w') (hB : n < B) : Fresh n w' :=
  ⟨by rw [hb.cell hB]; exact h.c0, by rw [hb.cell hB]; exact h.c1, by rw [hb.frozen hB]; exact h.f0, by rw [hb.frozen hB]; exact h.f1, Nat.lt_of_lt_of_le h.size hb.size⟩
theorem Fresh.next {n : Nat} {w w' : World} (h : Fresh n w) (hb : Below w.heap.size w w') : Fresh n w' := h.below hb h.size
theorem fresh_new (w : World) : Fresh w.heap.size (w.alloc (.cells #[.bool false, .slice none 0 0] 59)) :=
  ⟨by simp [go_sem], by simp [go_sem], by simp [go_sem], by simp [go_sem], by simp⟩
theorem Below.store {B n : Nat} {a w : World} (h : Below B a w) (hn : B ≤ n) (u v : Value) : Below B a ((w.setCell ⟨n, 0, none⟩ u).setCell ⟨n, 1, none⟩ v) :=
  (h.setCell (p := ⟨n, 0, none⟩) hn u).setCell (p := ⟨n, 1, none⟩) hn v

set_option maxHeartbeats 400000 in
theorem opp_any (neg : Bool) (x : Option Addr) (cap n : Nat) (w : World) (h : Digs w x cap (dig n)) :
    Calls Tryd.prog 40 #[.agg #[.bool neg, .slice x (dig n).length cap]] w fun e w' => (∃ v, e = .returned v ∧ Rep w' v (sgn (!neg) n)) ∧ Below w.heap.size w w' := by
  have hd := Dg_dig n
  have hv := val_dig n
  generalize dig n = ds at *
  obtain ⟨l, hl⟩ : ∃ l, ds.length = l := ⟨_, rfl⟩
  have b0 : ∀ o : Obj, Below w.heap.size w (w.alloc o) := fun o => (Below.refl _ _).alloc (Nat.le_refl _) _
  have T := fun (W : World) (hW : Below w.heap.size w W) => trim_any (!neg) x cap ds W (h.below hW) hd
  rw [hv, hl] at T
  rw [hl]
  have K := Lib.hid T
  have B0 := Lib.hid b0
  clear T h hd hv hl b0
  go_enter Tryd.func40, Tryd.ntmps40
  go_wp2_with fail
  with_reducible refine (K.out _ ((B0.out _).alloc (by simp) _)).mono ?_
  rintro e w2 ⟨⟨v, rfl, hR⟩, hb2⟩
  obtain ⟨x2, cap2, rfl, hD2⟩ := hR
  obtain ⟨c0, c1, f0, f1, hs⟩ := (fresh_new (w.alloc (.cells #[.bool neg, .slice x l cap] 59))).next hb2
  simp only [World.size_alloc] at c0 c1 f0 f1 hs
  have B2 := on ((B0.out (.cells #[.bool neg, .slice x l cap] 59)).alloc (by simp) _) hb2
  clear hb2
  go_wp2
  exact bodyPost_ret (v := .agg #[.bool (decide (sgn (!neg) n < 0)), .slice x2 (dig (sgn (!neg) n).natAbs).length cap2]) (by simp [results, Tryd.results40, go_sem, c0, c1]) rfl ⟨⟨_, rfl, x2, cap2, rfl, hD2.store c0 _ _⟩, Below.store B2 (by omega) _ _⟩
theorem opp_rep (z : Int) (u : Value) (w : World) (h : Rep w u z) :
    Calls Tryd.prog 40 #[u] w fun e w' => (∃ v, e = .returned v ∧ Rep w' v (-z)) ∧ Below w.heap.size w w' := by
  obtain ⟨x, c, rfl, h⟩ := h
  have := opp_any (decide (z < 0)) x c z.natAbs w h
  rw [show sgn (!decide (z < 0)) z.natAbs = -z by unfold sgn; by_cases hz : z < 0 <;> simp [hz] <;> omega] at this
  exact this

theorem Digs.at {w : World} {x : Option Addr} {cap k : Nat} {ds : List Nat} (h : Digs w x cap ds) (hk : k < ds.length) :
    ∃ b, x = some ⟨b, 0, none⟩ ∧ b < w.heap.size ∧ ds.length ≤ cap ∧ cap ≤ maxLen ∧ w.cell? ⟨b, k, none⟩ = some (.int .u64 ((ds.getD k 0 : Nat) : Int)) := by
  rcases h with ⟨_, _, rfl⟩ | ⟨b, h1, h2, h3, h4, h5⟩
  · simp at hk
  · exact ⟨b, h1, h2, h3, h4, h5 k hk⟩
theorem Digs.cap_ok {w : World} {x : Option Addr} {cap : Nat} {ds : List Nat} (h : Digs w x cap ds) : ds.length ≤ cap ∧ cap ≤ maxLen := by
  rcases h with ⟨_, rfl, rfl⟩ | ⟨b, h1, h2, h3, h4, h5⟩
  · simp
  · exact ⟨h3, h4⟩
theorem three_below (w : World) (o1 o2 o3 : Obj) : Below w.heap.size w (((w.alloc o1).alloc o2).alloc o3) :=
  (((Below.refl _ _).alloc (Nat.le_refl _) _).alloc (by simp) _).alloc (by simp; omega) _
theorem cell_three (w : World) (o1 o2 o3 : Obj) {b k : Nat} (hb : b < w.heap.size) : (((w.alloc o1).alloc o2).alloc o3).cell? ⟨b, k, none⟩ = w.cell? ⟨b, k, none⟩ :=
  (three_below w o1 o2 o3).cell (p := ⟨b, k, none⟩) hb
theorem fresh_three (w : World) (o1 o2 : Obj) : Fresh (w.heap.size + 2) (((w.alloc o1).alloc o2).alloc (.cells #[.bool false, .slice none 0 0] 59)) := by
  have := fresh_new ((w.alloc o1).alloc o2)
  simpa using this
theorem low_step {W wr w1 : World} {k s t B : Nat} {d v' : Value} {c : Array Value} (hown : wr.ownsRow B 78 1 d k ((low s k).map cellU))
    (hown' : w1.ownsRow B 78 1 v' (k + 1) ((low s k).map cellU ++ [cellU t])) (hgrow : (wr.alloc (.cells c 78)).grownBy w1 d.ownBlock)
    (hbel : Below B W wr) (hW : B ≤ wr.heap.size) (hu : t = s / 65536 ^ k % 65536) :
    w1.ownsRow B 78 1 v' (k + 1) ((low s (k + 1)).map cellU) ∧ Below B W w1 := by
  refine ⟨?_, ?_⟩
  · rw [low, List.map_append, ← hu]; exact hown'
  · exact (hbel.alloc hW _).grown hgrow (by simp; omega) (fun g hg => (hown.lt g hg).1)

theorem one_cell {w : World} {ad : Addr} {d : Nat} (h : w.cell? ad = some (cellU d)) : ∀ j u, [cellU d][j]? = some u → w.cell? (ad.add j) = some u := by
  intro j u hj
  match j, hj with
  | 0, hj =>
    simp at hj; subst hj
    have e : ad.add 0 = ad := by cases ad; simp [Addr.add]
    rw [e]; exact h
theorem one_ok (d : Nat) : ∀ u ∈ [cellU d], u.oneCell' = true := by
  intro u hu; simp at hu; subst hu; rfl

set_option maxHeartbeats 4000000 in
theorem add_same (p : Bool) (x y : Option Addr) (c1 c2 m n : Nat) (w : World) (h1 : Digs w x c1 (dig m)) (h2 : Digs w y c2 (dig n)) (l1 : (dig m).length ≤ 1000) (l2 : (dig n).length ≤ 1000) :
    Calls Tryd.prog 51 #[.agg #[.bool p, .slice x (dig m).length c1], .agg #[.bool p, .slice y (dig n).length c2]] w fun e w' => (∃ v, e = .returned v ∧ Rep w' v (sgn p (m + n))) ∧ Below w.heap.size w w' := by
  obtain ⟨i0, hi, hz0, hz1, hz2⟩ := info_parts infoU
  obtain ⟨la, hla⟩ : ∃ l, (dig m).length = l := ⟨_, rfl⟩
  obtain ⟨lb, hlb⟩ : ∃ l, (dig n).length = l := ⟨_, rfl⟩
  obtain ⟨k1, k2⟩ := h1.cap_ok
  obtain ⟨k3, k4⟩ := h2.cap_ok
  unfold maxLen at k2 k4
  rw [hla] at l1 k1
  rw [hlb] at l2 k3
  rw [hla, hlb]
  have LA := Lib.hid hla
  have LB := Lib.hid hlb
  clear hla hlb
  go_enter Tryd.func51, Tryd.ntmps51
  go_wp2
  go_loopw [10, 11, 12] (fun d cr i wr => ∃ k c : Nat, k ≤ la + lb + 1 ∧ i = .int .i64 k ∧ cr = .int .u64 c ∧ Hid (AddAt m n k c) ∧ c ≤ 1 ∧ (la + lb < k → c = 0) ∧ wr.ownsRow (w.heap.size + 3) 78 1 d k ((low (m + n) k).map cellU) ∧ Below (w.heap.size + 3) (((w.alloc (.cells #[.bool p, .slice x la c1] 59)).alloc (.cells #[.bool p, .slice y lb c2] 59)).alloc (.cells #[.bool false, .slice none 0 0] 59)) wr) (fun _ _ i _ => la + lb + 2 - (intOf i).toNat)
  case atStart => exact ⟨0, 0, by omega, rfl, rfl, AddAt.start m n, by omega, by omega, World.ownsRow_nil _ _ _ _, Below.refl _ _⟩
  case round =>
    obtain ⟨k, c, hk, rfl, rfl, hA, hc1, hcz, hown, hbel⟩ := hrel
    have hsz := hbel.size
    simp only [World.size_alloc] at hsz
    have q0 : wr.cell? ⟨w.heap.size, 0, none⟩ = some (.bool p) := by rw [hbel.cell (by simp)]; simp [go_sem]
    have q1 : wr.cell? ⟨w.heap.size, 1, none⟩ = some (.slice x la c1) := by rw [hbel.cell (by simp)]; simp [go_sem]
    have q2 : wr.cell? ⟨w.heap.size + 1, 0, none⟩ = some (.bool p) := by rw [hbel.cell (by simp)]; simp [go_sem]
    have q3 : wr.cell? ⟨w.heap.size + 1, 1, none⟩ = some (.slice y lb c2) := by rw [hbel.cell (by simp)]; simp [go_sem]
    obtain ⟨da, hda⟩ : ∃ d, m / 65536 ^ k % 65536 = d := ⟨_, rfl⟩
    obtain ⟨db, hdb⟩ : ∃ d, n / 65536 ^ k % 65536 = d := ⟨_, rfl⟩
    have HS := Lib.hid (hA.out.step hda hdb)
    have wa : da < 65536 := by omega
    have wb : db < 65536 := by omega
    have Ha := Lib.hid ((dig_get m k).trans hda)
    have Hb := Lib.hid ((dig_get n k).trans hdb)
    have ZA : Hid (la ≤ k → da = 0) := fun h => by rw [← hda, dig_out (by rw [LA.out]; exact h)]
    have ZB : Hid (lb ≤ k → db = 0) := fun h => by rw [← hdb, dig_out (by rw [LB.out]; exact h)]
    clear hda hdb
    by_cases hka' : k < la
    · have hka : k < (dig m).length := by rw [LA.out]; exact hka'
      by_cases hkb' : k < lb
      · have hkb : k < (dig n).length := by rw [LB.out]; exact hkb'
        obtain ⟨ba, hxa, hba, _, _, hca⟩ := Digs.at h1 hka
        subst hxa
        have ga : wr.cell? ⟨ba, k, none⟩ = some (.int .u64 ((da : Nat) : Int)) := by rw [hbel.cell (by show ba < _; omega), cell_three w _ _ _ hba, hca]; rw [Ha.out]
        obtain ⟨bb, hxb, hbb, _, _, hcb⟩ := Digs.at h2 hkb
        subst hxb
        have gb : wr.cell? ⟨bb, k, none⟩ = some (.int .u64 ((db : Nat) : Int)) := by rw [hbel.cell (by show bb < _; omega), cell_three w _ _ _ hbb, hcb]; rw [Hb.out]
        go_wp2_with (at_builtin; refine wpList_append_own _ rfl _ _ 57 rfl (w.heap.size + 3) 78 i0 (.int .u64 0) 1 8 Tryd.underlying57 hi hz0 hz1 hz2 rfl (by decide) _ _ _ rfl (hown.alloc _) ⟨wr.heap.size, 0, none⟩ 1 1 [cellU ((c + da + db) % 65536)] rfl rfl ?q1a ?q1b ?q1c ?q1d ?q1e ?_)
        case q1a => first | exact one_cell (by simp [cellU]) | (intro j v hj; match j, hj with | 0, hj => simp at hj; subst hj; simp [cellU])
        case q1b => first | exact one_ok _ | rfl
        case q1c => unfold maxLen; omega
        case q1d => omega
        case q1e => first | omega | (simp; omega)
        · intro v' w1 hown' hgrow _
          have R := low_step hown hown' hgrow hbel hsz (HS.out.2)
          have hA' := Lib.hid HS.out.1
          clear hown hown' hgrow hbel HS
          go_wp2
          go_roundw
          case rel => exact ⟨k + 1, (c + da + db) / 65536, by omega, by go_num, by go_num, hA', by omega, by omega, R.1, R.2⟩
          case measure => simp [intOf]; omega
      ·
        obtain ⟨ba, hxa, hba, _, _, hca⟩ := Digs.at h1 hka
        subst hxa
        have ga : wr.cell? ⟨ba, k, none⟩ = some (.int .u64 ((da : Nat) : Int)) := by rw [hbel.cell (by show ba < _; omega), cell_three w _ _ _ hba, hca]; rw [Ha.out]
        have zb : db = 0 := ZB.out (by omega)
        subst zb
        simp only [Nat.add_zero] at HS
        go_wp2_with (at_builtin; refine wpList_append_own _ rfl _ _ 57 rfl (w.heap.size + 3) 78 i0 (.int .u64 0) 1 8 Tryd.underlying57 hi hz0 hz1 hz2 rfl (by decide) _ _ _ rfl (hown.alloc _) ⟨wr.heap.size, 0, none⟩ 1 1 [cellU ((c + da) % 65536)] rfl rfl ?q2a ?q2b ?q2c ?q2d ?q2e ?_)
        case q2a => first | exact one_cell (by simp [cellU]) | (intro j v hj; match j, hj with | 0, hj => simp at hj; subst hj; simp [cellU])
        case q2b => first | exact one_ok _ | rfl
        case q2c => unfold maxLen; omega
        case q2d => omega
        case q2e => first | omega | (simp; omega)
        · intro v' w1 hown' hgrow _
          have R := low_step hown hown' hgrow hbel hsz (HS.out.2)
          have hA' := Lib.hid HS.out.1
          clear hown hown' hgrow hbel HS
          go_wp2
          go_roundw
          case rel => exact ⟨k + 1, (c + da) / 65536, by omega, by go_num, by go_num, hA', by omega, by omega, R.1, R.2⟩
          case measure => simp [intOf]; omega
    · by_cases hkb' : k < lb
      · have hkb : k < (dig n).length := by rw [LB.out]; exact hkb'
        obtain ⟨bb, hxb, hbb, _, _, hcb⟩ := Digs.at h2 hkb
        subst hxb
        have gb : wr.cell? ⟨bb, k, none⟩ = some (.int .u64 ((db : Nat) : Int)) := by rw [hbel.cell (by show bb < _; omega), cell_three w _ _ _ hbb, hcb]; rw [Hb.out]
        have za : da = 0 := ZA.out (by omega)
        subst za
        simp only [Nat.add_zero] at HS
        go_wp2_with (at_builtin; refine wpList_append_own _ rfl _ _ 57 rfl (w.heap.size + 3) 78 i0 (.int .u64 0) 1 8 Tryd.underlying57 hi hz0 hz1 hz2 rfl (by decide) _ _ _ rfl (hown.alloc _) ⟨wr.heap.size, 0, none⟩ 1 1 [cellU ((c + db) % 65536)] rfl rfl ?q3a ?q3b ?q3c ?q3d ?q3e ?_)
        case q3a => first | exact one_cell (by simp [cellU]) | (intro j v hj; match j, hj with | 0, hj => simp at hj; subst hj; simp [cellU])
        case q3b => first | exact one_ok _ | rfl
        case q3c => unfold maxLen; omega
        case q3d => omega
        case q3e => first | omega | (simp; omega)
        · intro v' w1 hown' hgrow _
          have R := low_step hown hown' hgrow hbel hsz (HS.out.2)
          have hA' := Lib.hid HS.out.1
          clear hown hown' hgrow hbel HS
          go_wp2
          go_roundw
          case rel => exact ⟨k + 1, (c + db) / 65536, by omega, by go_num, by go_num, hA', by omega, by omega, R.1, R.2⟩
          case measure => simp [intOf]; omega
      ·
        have za : da = 0 := ZA.out (by omega)
        subst za
        have zb : db = 0 := ZB.out (by omega)
        subst zb
        by_cases hc0 : c = 0
        · subst hc0
          have hva := dig_out (m := m) (k := k) (by rw [LA.out]; omega)
          have hvb := dig_out (m := n) (k := k) (by rw [LB.out]; omega)
          have ez := hA.out.done hva hvb
          obtain ⟨xd, cd, rfl, hD⟩ := digs_of_owns (ds := low (m + n) k) (by rw [low_len]; exact hown)
          have T := trim_any p xd cd (low (m + n) k) wr hD (low_Dg _ _)
          rw [low_len, ez] at T
          have K := Lib.hid T
          have FR : Fresh (w.heap.size + 2) wr := (fresh_three w _ _).below hbel (by omega)
          have B0 : Below w.heap.size w wr := (three_below w _ _ _).trans (hbel.mono (by omega))
          clear T ez hown hbel hD HS hva hvb
          go_wp2_with fail
          rw [low_len]
          with_reducible refine K.out.mono ?_
          rintro e w2 ⟨⟨v, rfl, hR⟩, hb2⟩
          obtain ⟨x2, cap2, rfl, hD2⟩ := hR
          obtain ⟨c0, c1', f0, f1, hs⟩ := FR.next hb2
          have B2 := on B0 hb2
          clear K B0 hb2 FR
          go_wp2
          exact bodyPost_ret (v := .agg #[.bool (decide (sgn p (m + n) < 0)), .slice x2 (dig (sgn p (m + n)).natAbs).length cap2]) (by simp [results, Tryd.results51, go_sem, c0, c1']) rfl ⟨⟨_, rfl, x2, cap2, rfl, hD2.store c0 _ _⟩, Below.store B2 (by omega) _ _⟩
        · have hcp : 0 < c := by omega
          simp only [Nat.add_zero] at HS
          go_wp2_with (at_builtin; refine wpList_append_own _ rfl _ _ 57 rfl (w.heap.size + 3) 78 i0 (.int .u64 0) 1 8 Tryd.underlying57 hi hz0 hz1 hz2 rfl (by decide) _ _ _ rfl (hown.alloc _) ⟨wr.heap.size, 0, none⟩ 1 1 [cellU ((c) % 65536)] rfl rfl ?q4a ?q4b ?q4c ?q4d ?q4e ?_)
          case q4a => first | exact one_cell (by simp [cellU]) | (intro j v hj; match j, hj with | 0, hj => simp at hj; subst hj; simp [cellU])
          case q4b => first | exact one_ok _ | rfl
          case q4c => unfold maxLen; omega
          case q4d => omega
          case q4e => first | omega | (simp; omega)
          · intro v' w1 hown' hgrow _
            have R := low_step hown hown' hgrow hbel hsz (HS.out.2)
            have hA' := Lib.hid HS.out.1
            clear hown hown' hgrow hbel HS
            go_wp2
            go_roundw
            case rel => exact ⟨k + 1, (c) / 65536, by omega, by go_num, by go_num, hA', by omega, by omega, R.1, R.2⟩
            case measure => simp [intOf]; omega
end Go.Proofs.YtjaabjehegcnaaaDoor
