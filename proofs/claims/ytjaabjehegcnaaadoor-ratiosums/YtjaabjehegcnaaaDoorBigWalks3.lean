/-
  What each call of the document's own numbers (package secateurref01) does, third part: Of, Opposite.
-/
import Derived.Test.YtjaabjehegcnaaaDoorBigWalks2
namespace Go.Proofs.YtjaabjehegcnaaaDoor
set_option maxRecDepth 100000
open Go.RowKit

/-- A digit in its cell. -/
def cellU (d : Nat) : Value := .int .u64 (d : Int)
theorem cellU_def (d : Nat) : cellU d = .int .u64 (d : Int) := rfl

theorem infoU : (Tryd.prog.info? 78).map (fun i => (i.zero, i.size, i.bytes)) = some (some (.int .u64 0), 1, 8) := by kernel_rfl

theorem digs_of_owns {w : World} {base : Nat} {v : Value} {ds : List Nat} (h : w.ownsRow base 78 1 v ds.length (ds.map cellU)) : ∃ x cap, v = .slice x ds.length cap ∧ Digs w x cap ds := by
  obtain ⟨h1, ⟨h2, h3⟩ | ⟨g, cap, cur, h2, h3, h4, h5, h6, h7, h8⟩⟩ := h
  · have e : ds = [] := List.eq_nil_of_length_eq_zero h3
    subst e
    exact ⟨none, 0, h2, Or.inl ⟨rfl, rfl, rfl⟩⟩
  · refine ⟨some ⟨g, 0, none⟩, cap, h2, Or.inr ⟨g, rfl, ?_, h5, h6, ?_⟩⟩
    · obtain ⟨hg, _⟩ := Array.getElem?_eq_some_iff.1 h4; exact hg
    · intro i hi
      have hc := World.ownsRow.cellAt (w := w) (base := base) (e := 78) (size := 1) (g := g) (n := ds.length) (cap := cap) (xs := ds.map cellU) ⟨h1, Or.inr ⟨g, cap, cur, rfl, h3, h4, h5, h6, h7, h8⟩⟩ i (by omega)
      rw [hc]
      simp [cellU, List.getD_eq_getElem?_getD, hi]

theorem of_step {w W wr w1 : World} {k m u : Nat} {d v' : Value} {c : Array Value} (hown : wr.ownsRow (w.heap.size + 1) 78 1 d k ((low m k).map cellU))
    (hown' : w1.ownsRow (w.heap.size + 1) 78 1 v' (k + 1) ((low m k).map cellU ++ [cellU (u % 65536)])) (hgrow : (wr.alloc (.cells c 78)).grownBy w1 d.ownBlock)
    (hbel : Below (w.heap.size + 1) W wr) (hW : w.heap.size + 1 ≤ wr.heap.size) (hu : m / 65536 ^ k = u) :
    u / 65536 = m / 65536 ^ (k + 1) ∧ w1.ownsRow (w.heap.size + 1) 78 1 v' (k + 1) ((low m (k + 1)).map cellU) ∧ Below (w.heap.size + 1) W w1 := by
  refine ⟨?_, ?_, ?_⟩
  · rw [Nat.pow_succ, ← Nat.div_div_eq_div_mul, hu]
  · rw [low, List.map_append, hu]; exact hown'
  · exact (hbel.alloc hW _).grown hgrow (by simp; omega) (fun g hg => (hown.lt g hg).1)

theorem Digs.store {w : World} {x : Option Addr} {cap n : Nat} {ds : List Nat} {p : Bool} (h : Digs w x cap ds) (hc : w.cell? ⟨n, 0, none⟩ = some (.bool p)) (u u' : Value) : Digs ((w.setCell ⟨n, 0, none⟩ u).setCell ⟨n, 1, none⟩ u') x cap ds := by
  rcases h with h | ⟨b, h1, h2, h3, h4, h5⟩
  · exact Or.inl h
  · refine Or.inr ⟨b, h1, by simpa [World.setCell] using h2, h3, h4, fun i hi => ?_⟩
    have hne : b ≠ n := by
      rintro rfl
      have h0 := h5 0 (by omega)
      rw [hc] at h0
      simp at h0
    rw [World.cell?_of_block (w := w) (w' := (w.setCell ⟨n, 0, none⟩ u).setCell ⟨n, 1, none⟩ u') (a := ⟨b, i, none⟩) (by
      show ((w.setCell ⟨n, 0, none⟩ u).setCell ⟨n, 1, none⟩ u').heap[b]? = w.heap[b]?
      rw [Below.heap_setCell _ _ _ _ hne, Below.heap_setCell _ _ _ _ hne])]
    exact h5 i hi

set_option maxHeartbeats 1000000 in
theorem of_any (a : Int) (ha : I64 a) (w : World) :
    Calls Tryd.prog 39 #[.int .i64 a] w fun e w' => (∃ v, e = .returned v ∧ Rep w' v a) ∧ Below w.heap.size w w' := by
  obtain ⟨i0, hi, hz0, hz1, hz2⟩ := info_parts infoU
  obtain ⟨a0, a1⟩ := ha
  obtain ⟨m, hm⟩ : ∃ m, a.natAbs = m := ⟨_, rfl⟩
  have hm2 : m < 18446744073709551616 := by omega
  have HM := Lib.hid hm
  clear hm
  by_cases hneg : a < 0
  ·
    have hn : decide (a < 0) = true := by simp [hneg]
    have HN := Lib.hid hn
    go_enter Tryd.func39, Tryd.ntmps39
    go_wp2
    go_loopw [3, 4, 5] (fun u d i wr => ∃ k : Nat, k ≤ 4 ∧ i = .int .i64 k ∧ u = .int .u64 ((m / 65536 ^ k : Nat) : Int) ∧ wr.ownsRow (w.heap.size + 1) 78 1 d k ((low m k).map cellU) ∧ Below (w.heap.size + 1) (w.alloc (.cells #[.bool false, .slice none 0 0] 59)) wr) (fun _ _ i _ => 4 - (intOf i).toNat)
    case atStart => exact ⟨0, by omega, rfl, congrArg (Value.int .u64) (by have := HM.out; simp; omega), World.ownsRow_nil _ _ _ _, Below.refl _ _⟩
    case round =>
      obtain ⟨k, hk, rfl, rfl, hown, hbel⟩ := hrel
      have hb1 : m / 65536 ^ k ≤ m := Nat.div_le_self _ _
      obtain ⟨u, hu⟩ : ∃ u, m / 65536 ^ k = u := ⟨_, rfl⟩
      rw [hu] at hb1
      rw [hu]
      have HU := Lib.hid hu
      clear hu
      have hsz := hbel.size
      simp only [World.size_alloc] at hsz
      by_cases hlt : k < 4
      · go_wp2_with (at_builtin; refine wpList_append_own _ rfl _ _ 57 rfl (w.heap.size + 1) 78 i0 (.int .u64 0) 1 8 Tryd.underlying57 hi hz0 hz1 hz2 rfl (by decide) _ _ _ rfl (hown.alloc _) ⟨wr.heap.size, 0, none⟩ 1 1 [cellU (u % 65536)] rfl rfl ?c1 ?c2 ?c3 ?c4 ?c5 ?_)
        case c1 =>
          intro j v hj
          match j, hj with
          | 0, hj => simp at hj; subst hj; simp [Addr.add, cellU]
        case c2 => intro v hv; simp at hv; subst hv; rfl
        case c3 => unfold maxLen; omega
        case c4 => omega
        case c5 => simp; omega
        · intro v' w1 hown' hgrow _
          have R := of_step hown hown' hgrow hbel hsz HU.out
          clear hown hown' hgrow hbel
          go_wp2
          go_roundw
          case rel => exact ⟨k + 1, by omega, by go_num, congrArg (Value.int .u64) (by have := R.1; omega), R.2.1, R.2.2⟩
          case measure => simp [intOf]; omega
      · obtain rfl : k = 4 := by omega
        obtain ⟨x, cap, rfl, hD⟩ := digs_of_owns (ds := low m 4) (by rw [low_len]; exact hown)
        have T := trim_any true x cap (low m 4) wr hD (low_Dg _ _)
        rw [low_len, low_val, show m % 65536 ^ 4 = m from Nat.mod_eq_of_lt (by omega)] at T
        have ez : sgn true m = a := by have := HM.out; unfold sgn; simp; omega
        rw [ez] at T
        have C0 : wr.cell? ⟨w.heap.size, 0, none⟩ = some (.bool false) := by rw [hbel.cell (by simp)]; simp [go_sem]
        have C1 : wr.cell? ⟨w.heap.size, 1, none⟩ = some (.slice none 0 0) := by rw [hbel.cell (by simp)]; simp [go_sem]
        have F0 : wr.frozen? ⟨w.heap.size, 0, none⟩ = false := by rw [hbel.frozen (by simp)]; simp [go_sem]
        have F1 : wr.frozen? ⟨w.heap.size, 1, none⟩ = false := by rw [hbel.frozen (by simp)]; simp [go_sem]
        have K := Lib.hid T
        have EZ := Lib.hid ez
        have B0 : Below w.heap.size w wr := (((Below.refl _ _).alloc (Nat.le_refl _) _)).trans (hbel.mono (by omega))
        clear T ez hown hbel hD
        go_wp2_with fail
        rw [low_len]
        with_reducible refine K.out.mono ?_
        rintro e w2 ⟨⟨v, rfl, hR⟩, hb2⟩
        obtain ⟨x2, cap2, rfl, hD2⟩ := hR
        have c0 : w2.cell? ⟨w.heap.size, 0, none⟩ = some (.bool false) := by rw [hb2.cell (by simp; omega)]; exact C0
        have c1 : w2.cell? ⟨w.heap.size, 1, none⟩ = some (.slice none 0 0) := by rw [hb2.cell (by simp; omega)]; exact C1
        have f0 : w2.frozen? ⟨w.heap.size, 0, none⟩ = false := by rw [hb2.frozen (by simp; omega)]; exact F0
        have f1 : w2.frozen? ⟨w.heap.size, 1, none⟩ = false := by rw [hb2.frozen (by simp; omega)]; exact F1
        have B2 := on B0 hb2
        clear C0 C1 F0 F1 K B0 hb2
        go_wp2
        exact bodyPost_ret (v := .agg #[.bool true, .slice x2 (dig a.natAbs).length cap2]) (by simp [results, Tryd.results39, go_sem, c0, c1]) rfl ⟨⟨_, rfl, x2, cap2, by rw [HN.out], hD2.store c0 _ _⟩, (B2.setCell (Nat.le_refl _) _).setCell (Nat.le_refl _) _⟩
  ·
    have hn : decide (a < 0) = false := by simp [hneg]
    have HN := Lib.hid hn
    go_enter Tryd.func39, Tryd.ntmps39
    go_wp2
    go_loopw [3, 4, 5] (fun u d i wr => ∃ k : Nat, k ≤ 4 ∧ i = .int .i64 k ∧ u = .int .u64 ((m / 65536 ^ k : Nat) : Int) ∧ wr.ownsRow (w.heap.size + 1) 78 1 d k ((low m k).map cellU) ∧ Below (w.heap.size + 1) (w.alloc (.cells #[.bool false, .slice none 0 0] 59)) wr) (fun _ _ i _ => 4 - (intOf i).toNat)
    case atStart => exact ⟨0, by omega, rfl, congrArg (Value.int .u64) (by have := HM.out; simp; omega), World.ownsRow_nil _ _ _ _, Below.refl _ _⟩
    case round =>
      obtain ⟨k, hk, rfl, rfl, hown, hbel⟩ := hrel
      have hb1 : m / 65536 ^ k ≤ m := Nat.div_le_self _ _
      obtain ⟨u, hu⟩ : ∃ u, m / 65536 ^ k = u := ⟨_, rfl⟩
      rw [hu] at hb1
      rw [hu]
      have HU := Lib.hid hu
      clear hu
      have hsz := hbel.size
      simp only [World.size_alloc] at hsz
      by_cases hlt : k < 4
      · go_wp2_with (at_builtin; refine wpList_append_own _ rfl _ _ 57 rfl (w.heap.size + 1) 78 i0 (.int .u64 0) 1 8 Tryd.underlying57 hi hz0 hz1 hz2 rfl (by decide) _ _ _ rfl (hown.alloc _) ⟨wr.heap.size, 0, none⟩ 1 1 [cellU (u % 65536)] rfl rfl ?c1 ?c2 ?c3 ?c4 ?c5 ?_)
        case c1 =>
          intro j v hj
          match j, hj with
          | 0, hj => simp at hj; subst hj; simp [Addr.add, cellU]
        case c2 => intro v hv; simp at hv; subst hv; rfl
        case c3 => unfold maxLen; omega
        case c4 => omega
        case c5 => simp; omega
        · intro v' w1 hown' hgrow _
          have R := of_step hown hown' hgrow hbel hsz HU.out
          clear hown hown' hgrow hbel
          go_wp2
          go_roundw
          case rel => exact ⟨k + 1, by omega, by go_num, congrArg (Value.int .u64) (by have := R.1; omega), R.2.1, R.2.2⟩
          case measure => simp [intOf]; omega
      · obtain rfl : k = 4 := by omega
        obtain ⟨x, cap, rfl, hD⟩ := digs_of_owns (ds := low m 4) (by rw [low_len]; exact hown)
        have T := trim_any false x cap (low m 4) wr hD (low_Dg _ _)
        rw [low_len, low_val, show m % 65536 ^ 4 = m from Nat.mod_eq_of_lt (by omega)] at T
        have ez : sgn false m = a := by have := HM.out; unfold sgn; simp; omega
        rw [ez] at T
        have C0 : wr.cell? ⟨w.heap.size, 0, none⟩ = some (.bool false) := by rw [hbel.cell (by simp)]; simp [go_sem]
        have C1 : wr.cell? ⟨w.heap.size, 1, none⟩ = some (.slice none 0 0) := by rw [hbel.cell (by simp)]; simp [go_sem]
        have F0 : wr.frozen? ⟨w.heap.size, 0, none⟩ = false := by rw [hbel.frozen (by simp)]; simp [go_sem]
        have F1 : wr.frozen? ⟨w.heap.size, 1, none⟩ = false := by rw [hbel.frozen (by simp)]; simp [go_sem]
        have K := Lib.hid T
        have EZ := Lib.hid ez
        have B0 : Below w.heap.size w wr := (((Below.refl _ _).alloc (Nat.le_refl _) _)).trans (hbel.mono (by omega))
        clear T ez hown hbel hD
        go_wp2_with fail
        rw [low_len]
        with_reducible refine K.out.mono ?_
        rintro e w2 ⟨⟨v, rfl, hR⟩, hb2⟩
        obtain ⟨x2, cap2, rfl, hD2⟩ := hR
        have c0 : w2.cell? ⟨w.heap.size, 0, none⟩ = some (.bool false) := by rw [hb2.cell (by simp; omega)]; exact C0
        have c1 : w2.cell? ⟨w.heap.size, 1, none⟩ = some (.slice none 0 0) := by rw [hb2.cell (by simp; omega)]; exact C1
        have f0 : w2.frozen? ⟨w.heap.size, 0, none⟩ = false := by rw [hb2.frozen (by simp; omega)]; exact F0
        have f1 : w2.frozen? ⟨w.heap.size, 1, none⟩ = false := by rw [hb2.frozen (by simp; omega)]; exact F1
        have B2 := on B0 hb2
        clear C0 C1 F0 F1 K B0 hb2
        go_wp2
        exact bodyPost_ret (v := .agg #[.bool false, .slice x2 (dig a.natAbs).length cap2]) (by simp [results, Tryd.results39, go_sem, c0, c1]) rfl ⟨⟨_, rfl, x2, cap2, by rw [HN.out], hD2.store c0 _ _⟩, (B2.setCell (Nat.le_refl _) _).setCell (Nat.le_refl _) _⟩
end Go.Proofs.YtjaabjehegcnaaaDoor
