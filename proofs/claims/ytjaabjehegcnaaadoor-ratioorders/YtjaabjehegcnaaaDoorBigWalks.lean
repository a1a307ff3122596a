/-
  What each call of the document's own numbers (package secateurref01) does: contracts over the translated text. First part: digits in memory, trim, far, Cmp.
-/
import Derived.Test.YtjaabjehegcnaaaDoorRows
import Derived.Test.YtjaabjehegcnaaaDoorBigMath
import Derived.WalkSpells
import Derived.WalkLawsBesides
import Derived.Deep.RegionHeld3
import Derived.Deep.RegionWith
import Derived.BigQuiet
namespace Go.Proofs.YtjaabjehegcnaaaDoor
open Go.RowKit

/-- The slice (x, length, cap) holds the digits ds. -/
def Digs (w : World) (x : Option Addr) (cap : Nat) (ds : List Nat) : Prop :=
  (x = none ∧ cap = 0 ∧ ds = []) ∨
  ∃ b, x = some ⟨b, 0, none⟩ ∧ b < w.heap.size ∧ ds.length ≤ cap ∧ cap ≤ maxLen ∧ ∀ i, i < ds.length → w.cell? ⟨b, i, none⟩ = some (.int .u64 ((ds.getD i 0 : Nat) : Int))

theorem Digs.below {w w' : World} {x : Option Addr} {cap : Nat} {ds : List Nat} (h : Digs w x cap ds) (hb : Below w.heap.size w w') : Digs w' x cap ds := by
  rcases h with h | ⟨b, h1, h2, h3, h4, h5⟩
  · exact Or.inl h
  · exact Or.inr ⟨b, h1, Nat.lt_of_lt_of_le h2 hb.size, h3, h4, fun i hi => by rw [hb.cell (by exact h2)]; exact h5 i hi⟩
theorem Digs.take {w : World} {x : Option Addr} {cap : Nat} {ds : List Nat} (h : Digs w x cap ds) (n : Nat) : Digs w x cap (ds.take n) := by
  rcases h with ⟨h1, h2, h3⟩ | ⟨b, h1, h2, h3, h4, h5⟩
  · exact Or.inl ⟨h1, h2, by rw [h3]; simp⟩
  · refine Or.inr ⟨b, h1, h2, by simp; omega, h4, fun i hi => ?_⟩
    have hi1 : i < ds.length := by simp at hi; omega
    have hi2 : i < n := by simp at hi; omega
    rw [h5 i hi1]
    simp [List.getD_eq_getElem?_getD, hi2]

/-- The value v is the number z. -/
def Rep (w : World) (v : Value) (z : Int) : Prop :=
  ∃ x cap, v = .agg #[.bool (decide (z < 0)), .slice x (dig z.natAbs).length cap] ∧ Digs w x cap (dig z.natAbs)
theorem Rep.below {w w' : World} {v : Value} {z : Int} (h : Rep w v z) (hb : Below w.heap.size w w') : Rep w' v z := by
  obtain ⟨x, cap, h1, h2⟩ := h
  exact ⟨x, cap, h1, h2.below hb⟩

/-- The number of digits and a sign. -/
def sgn (neg : Bool) (n : Nat) : Int := if neg then -(n : Int) else n
theorem sgn_abs (neg : Bool) (n : Nat) : (sgn neg n).natAbs = n := by unfold sgn; split <;> omega
theorem sgn_neg (neg : Bool) (n : Nat) : decide (sgn neg n < 0) = (neg && decide (0 < n)) := by
  unfold sgn; cases neg <;> simp <;> omega

theorem rep_of {W : World} {neg neg' : Bool} {x : Option Addr} {cap m : Nat} {ds : List Nat} (hD : Digs W x cap ds) (hd : Dg ds) (hm : m ≤ ds.length) (hv : val (ds.take m) = val ds)
    (he : m = 0 ∨ ds.getD (m - 1) 0 ≠ 0) (hn : neg' = (neg && decide (0 < m))) : Rep W (.agg #[.bool neg', .slice x m cap]) (sgn neg (val ds)) := by
  have e := dig_take hd hm hv he
  have el : (dig (val ds)).length = m := by rw [← e]; simp; omega
  refine ⟨x, cap, ?_, ?_⟩
  · rw [sgn_abs, sgn_neg, el, hn]
    congr 5
    by_cases h0 : 0 < m
    · have := dig_len_pos (n := val ds); rw [el] at this
      simp [h0]; have := this.1 h0; omega
    · have := dig_len_pos (n := val ds); rw [el] at this
      simp [h0]; by_cases hz : val ds = 0
      · exact hz
      · exact absurd (this.2 hz) h0
  · rw [sgn_abs, ← e]; exact hD.take m

theorem trim_world (w : World) (a b : Array Value) : Below w.heap.size w ((w.alloc (.cells a 59)).alloc (.cells b 59)).drew :=
  (((Below.refl _ _).alloc (Nat.le_refl _) _).alloc (by simp) _).drew

set_option maxHeartbeats 1000000 in
theorem trim_plus (x : Option Addr) (cap : Nat) (ds : List Nat) (w : World) (h : Digs w x cap ds) (hd : Dg ds) :
    Calls Tryd.prog 62 #[.agg #[.bool false, .slice x ds.length cap]] w fun e w' => (∃ v, e = .returned v ∧ Rep w' v (sgn false (val ds))) ∧ Below w.heap.size w w' := by
  have hD := h
  rcases h with ⟨rfl, rfl, rfl⟩ | ⟨b, rfl, hb, hl, hm, hc⟩
  · go_enter Tryd.func62, Tryd.ntmps62
    go_wp2
    go_loop [3] (fun t => t = .int .i64 0) (fun t => (intOf t).toNat)
    case atStart => rfl
    case round =>
      subst hrel
      go_wp2
      go_region
      go_wp2
      exact bodyPost_ret (v := .agg #[.bool false, .slice none 0 0]) (by simp [results, Tryd.results62, go_sem]) rfl ⟨⟨_, rfl, rep_of (m := 0) (hD.below (trim_world _ _ _)) hd (by simp) (by simp) (Or.inl rfl) (by simp)⟩, trim_world _ _ _⟩
  · unfold maxLen at hm
    go_enter Tryd.func62, Tryd.ntmps62
    go_wp2
    go_loop [3] (fun t => ∃ n : Nat, n ≤ ds.length ∧ t = .int .i64 n ∧ Hid (val (ds.take n) = val ds)) (fun t => (intOf t).toNat)
    case atStart => exact ⟨ds.length, Nat.le_refl _, rfl, by show _ = _; simp⟩
    case round =>
      obtain ⟨n, hn, rfl, hv⟩ := hrel
      rcases n with _ | k
      · go_wp2
        go_region
        go_wp2
        exact bodyPost_ret (v := .agg #[.bool false, .slice (some ⟨b, 0, none⟩) 0 cap]) (by simp [results, Tryd.results62, go_sem]) rfl ⟨⟨_, rfl, rep_of (m := 0) (hD.below (trim_world _ _ _)) hd (by simp) hv.out (Or.inl rfl) (by simp)⟩, trim_world _ _ _⟩
      · have hck := hc k (by omega)
        obtain ⟨d, hde⟩ : ∃ d, ds.getD k 0 = d := ⟨_, rfl⟩
        rw [hde] at hck
        have HD := Lib.hid hde
        clear hde
        by_cases h0 : d = 0
        · subst h0
          go_wp2
          go_round
          case rel => exact ⟨k, by omega, by go_num, by show _ = _; rw [← hv.out]; exact val_take_step hn HD.out⟩
          case measure => simp [intOf]
        · have hne : ((d : Int) == 0) = false := by simp; omega
          go_wp2
          go_region
          go_wp2
          exact bodyPost_ret (v := .agg #[.bool false, .slice (some ⟨b, 0, none⟩) (k + 1) cap]) (by simp [results, Tryd.results62, go_sem]) rfl ⟨⟨_, rfl, rep_of (m := k + 1) (hD.below (trim_world _ _ _)) hd hn hv.out (Or.inr (by rw [show k + 1 - 1 = k by omega, HD.out]; exact h0)) (by simp)⟩, trim_world _ _ _⟩

set_option maxHeartbeats 1000000 in
theorem trim_minus (x : Option Addr) (cap : Nat) (ds : List Nat) (w : World) (h : Digs w x cap ds) (hd : Dg ds) :
    Calls Tryd.prog 62 #[.agg #[.bool true, .slice x ds.length cap]] w fun e w' => (∃ v, e = .returned v ∧ Rep w' v (sgn true (val ds))) ∧ Below w.heap.size w w' := by
  have hD := h
  rcases h with ⟨rfl, rfl, rfl⟩ | ⟨b, rfl, hb, hl, hm, hc⟩
  · go_enter Tryd.func62, Tryd.ntmps62
    go_wp2
    go_loop [3] (fun t => t = .int .i64 0) (fun t => (intOf t).toNat)
    case atStart => rfl
    case round =>
      subst hrel
      go_wp2
      go_region
      go_wp2
      exact bodyPost_ret (v := .agg #[.bool false, .slice none 0 0]) (by simp [results, Tryd.results62, go_sem]) rfl ⟨⟨_, rfl, rep_of (m := 0) (hD.below (trim_world _ _ _)) hd (by simp) (by simp) (Or.inl rfl) (by simp)⟩, trim_world _ _ _⟩
  · unfold maxLen at hm
    go_enter Tryd.func62, Tryd.ntmps62
    go_wp2
    go_loop [3] (fun t => ∃ n : Nat, n ≤ ds.length ∧ t = .int .i64 n ∧ Hid (val (ds.take n) = val ds)) (fun t => (intOf t).toNat)
    case atStart => exact ⟨ds.length, Nat.le_refl _, rfl, by show _ = _; simp⟩
    case round =>
      obtain ⟨n, hn, rfl, hv⟩ := hrel
      rcases n with _ | k
      · go_wp2
        go_region
        go_wp2
        exact bodyPost_ret (v := .agg #[.bool false, .slice (some ⟨b, 0, none⟩) 0 cap]) (by simp [results, Tryd.results62, go_sem]) rfl ⟨⟨_, rfl, rep_of (m := 0) (hD.below (trim_world _ _ _)) hd (by simp) hv.out (Or.inl rfl) (by simp)⟩, trim_world _ _ _⟩
      · have hck := hc k (by omega)
        obtain ⟨d, hde⟩ : ∃ d, ds.getD k 0 = d := ⟨_, rfl⟩
        rw [hde] at hck
        have HD := Lib.hid hde
        clear hde
        by_cases h0 : d = 0
        · subst h0
          go_wp2
          go_round
          case rel => exact ⟨k, by omega, by go_num, by show _ = _; rw [← hv.out]; exact val_take_step hn HD.out⟩
          case measure => simp [intOf]
        · have hne : ((d : Int) == 0) = false := by simp; omega
          go_wp2
          go_region
          go_wp2
          exact bodyPost_ret (v := .agg #[.bool true, .slice (some ⟨b, 0, none⟩) (k + 1) cap]) (by simp [results, Tryd.results62, go_sem]) rfl ⟨⟨_, rfl, rep_of (m := k + 1) (hD.below (trim_world _ _ _)) hd hn hv.out (Or.inr (by rw [show k + 1 - 1 = k by omega, HD.out]; exact h0)) (by simp)⟩, trim_world _ _ _⟩

theorem trim_any (neg : Bool) (x : Option Addr) (cap : Nat) (ds : List Nat) (w : World) (h : Digs w x cap ds) (hd : Dg ds) :
    Calls Tryd.prog 62 #[.agg #[.bool neg, .slice x ds.length cap]] w fun e w' => (∃ v, e = .returned v ∧ Rep w' v (sgn neg (val ds))) ∧ Below w.heap.size w w' := by
  cases neg
  · exact trim_plus x cap ds w h hd
  · exact trim_minus x cap ds w h hd

set_option maxHeartbeats 1000000 in
theorem far_any (p q : Bool) (x y : Option Addr) (c1 c2 : Nat) (m n : Nat) (w : World) (h1 : Digs w x c1 (dig m)) (h2 : Digs w y c2 (dig n)) :
    Calls Tryd.prog 70 #[.agg #[.bool p, .slice x (dig m).length c1], .agg #[.bool q, .slice y (dig n).length c2]] w fun e w' => e = .returned (.int .i64 (cmp3 (m : Int) (n : Int))) ∧ Below w.heap.size w w' := by
  have d1 := Dg_dig m
  have d2 := Dg_dig n
  have v1 := val_dig m
  have v2 := val_dig n
  have L1 := Lib.hid (fun h => dig_len_lt (a := m) (b := n) h)
  have L2 := Lib.hid (fun h => dig_len_lt (a := n) (b := m) h)
  generalize dig m = a at *
  generalize dig n = b at *
  have la : a.length ≤ maxLen := by rcases h1 with ⟨_, _, rfl⟩ | ⟨_, _, _, h, k, _⟩ <;> simp_all; omega
  have lb : b.length ≤ maxLen := by rcases h2 with ⟨_, _, rfl⟩ | ⟨_, _, _, h, k, _⟩ <;> simp_all; omega
  unfold maxLen at la lb
  have V1 := Lib.hid v1
  have V2 := Lib.hid v2
  clear v1 v2
  by_cases hlen : a.length = b.length
  · have HL := Lib.hid hlen
    by_cases h0 : a.length = 0
    · have ea : a = [] := List.eq_nil_of_length_eq_zero h0
      have eb : b = [] := List.eq_nil_of_length_eq_zero (by omega)
      subst ea; subst eb
      have hr : cmp3 (m : Int) (n : Int) = 0 := by
        have e1 := V1.out; have e2 := V2.out; simp [val] at e1 e2; subst e1; subst e2; decide
      rw [hr]
      clear h1 h2 d1 d2 L1 L2 HL V1 V2 hlen h0
      go_enter Tryd.func70, Tryd.ntmps70
      go_wp2
      go_loop [5] (fun t => t = .int .i64 (-1)) (fun t => 0)
      case atStart => rfl
      case round =>
        subst hrel
        go_wp2
        go_ret
        exact ⟨rfl, ((Below.refl _ _).alloc (Nat.le_refl _) _).alloc (by simp) _⟩
    · obtain ⟨ba, rfl, hba, lca, mca, ca⟩ : ∃ ba, x = some ⟨ba, 0, none⟩ ∧ ba < w.heap.size ∧ a.length ≤ c1 ∧ c1 ≤ maxLen ∧ ∀ i, i < a.length → w.cell? ⟨ba, i, none⟩ = some (.int .u64 ((a.getD i 0 : Nat) : Int)) := by
        rcases h1 with ⟨_, _, rfl⟩ | h1
        · simp at h0
        · exact h1
      obtain ⟨bb, rfl, hbb, lcb, mcb, cb⟩ : ∃ bb, y = some ⟨bb, 0, none⟩ ∧ bb < w.heap.size ∧ b.length ≤ c2 ∧ c2 ≤ maxLen ∧ ∀ i, i < b.length → w.cell? ⟨bb, i, none⟩ = some (.int .u64 ((b.getD i 0 : Nat) : Int)) := by
        rcases h2 with ⟨_, _, rfl⟩ | h2
        · exact absurd (hlen.trans (by simp)) h0
        · exact h2
      clear h1 h2 L1 L2
      obtain ⟨l, hl⟩ : ∃ l, a.length = l := ⟨_, rfl⟩
      have hl2 : b.length = l := by omega
      rw [hl, hl2]
      rw [hl] at h0 la lca
      rw [hl2] at lb lcb
      have LA := Lib.hid hl
      have LB := Lib.hid hl2
      have CA := Lib.hid ca
      have CB := Lib.hid cb
      clear hl hl2 hlen ca cb
      have hpos : 0 < l := by omega
      go_enter Tryd.func70, Tryd.ntmps70
      go_wp2
      go_loopw [5] (fun t wr => (∃ k, wr = ((w.alloc (.cells #[.bool p, .slice (some ⟨ba, 0, none⟩) l c1] 59)).alloc (.cells #[.bool q, .slice (some ⟨bb, 0, none⟩) l c2] 59)).drewN k) ∧ ((t = .int .i64 (-1) ∧ Hid (a = b)) ∨ ∃ j : Nat, j < l ∧ t = .int .i64 j ∧ Hid (a.drop (j + 1) = b.drop (j + 1)))) (fun t _ => (intOf t + 1).toNat)
      case atStart => exact ⟨⟨0, rfl⟩, Or.inr ⟨l - 1, by omega, by go_num, by show _ = _; rw [show l - 1 + 1 = l by omega]; rw [List.drop_of_length_le (by rw [LA.out]; omega), List.drop_of_length_le (by rw [LB.out]; omega)]⟩⟩
      case round =>
        obtain ⟨⟨nd, rfl⟩, ⟨rfl, he⟩ | ⟨j, hj, rfl, he⟩⟩ := hrel
        · have hr : cmp3 (m : Int) (n : Int) = 0 := by
            have e1 := V1.out; have e2 := V2.out; rw [he.out, e2] at e1; subst e1; unfold cmp3; simp
          have HR := Lib.hid hr
          clear hr
          go_wp2
          go_ret
          exact ⟨ret_int HR.out.symm, below_drewN (((Below.refl _ _).alloc (Nat.le_refl _) _).alloc (by simp) _) _⟩
        · have c1j := CA.out j (by rw [LA.out]; exact hj)
          have c2j := CB.out j (by rw [LB.out]; exact hj)
          obtain ⟨da, hda⟩ : ∃ da, a.getD j 0 = da := ⟨_, rfl⟩
          obtain ⟨db, hdb⟩ : ∃ db, b.getD j 0 = db := ⟨_, rfl⟩
          rw [hda] at c1j
          rw [hdb] at c2j
          have DA := Lib.hid hda
          have DB := Lib.hid hdb
          clear hda hdb
          rcases Nat.lt_trichotomy da db with hlt | heq | hgt
          · have hr : cmp3 (m : Int) (n : Int) = -1 := by
              have := val_lt_of d1 (by rw [LA.out, LB.out]) (by rw [LA.out]; exact hj) he.out (by rw [DA.out, DB.out]; exact hlt)
              rw [V1.out, V2.out] at this; unfold cmp3; rw [if_pos (by omega)]
            have HR := Lib.hid hr
            clear hr
            go_wp2
            go_quiet (fail)
            go_wp2
            go_ret
            exact ⟨ret_int HR.out.symm, below_drewN (below_drewN (((Below.refl _ _).alloc (Nat.le_refl _) _).alloc (by simp) _) _) _⟩
          · subst heq
            have hn : Hid (a.drop j = b.drop j) := drop_step (by rw [LA.out]; exact hj) (by rw [LB.out]; exact hj) he.out (by rw [DA.out, DB.out])
            rcases j with _ | j
            · have hab : Hid (a = b) := by show a = b; simpa using hn.out
              go_wp2
              go_quiet (fail)
              go_wp2
              go_quiet (fail)
              go_wp2
              go_roundw
              case rel => exact ⟨⟨_, rfl⟩, Or.inl ⟨by go_num, hab⟩⟩
              case measure => simp [intOf]
            · go_wp2
              go_quiet (fail)
              go_wp2
              go_quiet (fail)
              go_wp2
              go_roundw
              case rel => exact ⟨⟨_, rfl⟩, Or.inr ⟨j, by omega, by go_num, hn⟩⟩
              case measure => simp [intOf]; omega
          · have hr : cmp3 (m : Int) (n : Int) = 1 := by
              have := val_lt_of d2 (by rw [LA.out, LB.out]) (by rw [LB.out]; exact hj) he.out.symm (by rw [DA.out, DB.out]; exact hgt)
              rw [V1.out, V2.out] at this; unfold cmp3; rw [if_neg (by omega), if_pos (by omega)]
            have HR := Lib.hid hr
            clear hr
            go_wp2
            go_quiet (fail)
            go_wp2
            go_quiet (fail)
            go_wp2
            go_ret
            exact ⟨ret_int HR.out.symm, below_drewN (below_drewN (below_drewN (((Below.refl _ _).alloc (Nat.le_refl _) _).alloc (by simp) _) _) _) _⟩
  · by_cases hlt : a.length < b.length
    · have hr : cmp3 (m : Int) (n : Int) = -1 := by
        unfold cmp3; rw [if_pos]; have := L1.out hlt; omega
      rw [hr]
      go_enter Tryd.func70, Tryd.ntmps70
      go_wp2
      go_ret
      exact ⟨rfl, ((Below.refl _ _).alloc (Nat.le_refl _) _).alloc (by simp) _⟩
    · have hr : cmp3 (m : Int) (n : Int) = 1 := by
        have := L2.out (by omega); unfold cmp3; rw [if_neg (by omega), if_pos (by omega)]
      rw [hr]
      go_enter Tryd.func70, Tryd.ntmps70
      go_wp2
      go_ret
      exact ⟨rfl, ((Below.refl _ _).alloc (Nat.le_refl _) _).alloc (by simp) _⟩
end Go.Proofs.YtjaabjehegcnaaaDoor
