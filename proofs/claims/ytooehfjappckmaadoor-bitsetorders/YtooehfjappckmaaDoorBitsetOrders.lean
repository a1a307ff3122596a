/-
  BitsetOrders: what is in just one of two sets, the greatest number of each, how many are below a number, and which comes first, is the document's answer (P3.4). Conditions: those of the given row (the library's table of math/bits lies as its initialiser lays it).
-/
import Derived.Test.YtooehfjappckmaaDoorPairKit
import Derived.Test.YtooehfjappckmaaDoorCompareWalks
import Derived.Test.YtooehfjappckmaaDoorJoinXor
namespace Go.Proofs.YtooehfjappckmaaDoor.bitsetOrders
set_option maxRecDepth 100000
open Go.RowKit

/-- The first M numbers of a list that came in. -/
def RowAt (w : World) (x : Option Addr) (M : Nat) (zs : List Int) : Prop :=
  (x = none → M = 0) ∧ M ≤ zs.length ∧ (∀ i, i < M → I64 (zs.getD i 0)) ∧ ∀ ad, x = some ad → ∀ i, i < M → w.cell? (ad.add i) = some (.int .i64 (zs.getD i 0))
theorem RowAt.below {w w' : World} {x : Option Addr} {M : Nat} {zs : List Int} (h : RowAt w x M zs) (hb : Below w.heap.size w w') : RowAt w' x M zs :=
  ⟨h.1, h.2.1, h.2.2.1, fun ad he i hi => by have hc := h.2.2.2 ad he i hi; rw [hb.cell (World.block_lt_of_cell? w _ hc)]; exact hc⟩
theorem rowAt_of {w : World} {x : Option Addr} {len cap M : Nat} {zs : List Int} (h : IsRow w x len cap zs) (hM : M ≤ len) : RowAt w x M zs := by
  have hn := nums_of h hM
  rcases h with ⟨rfl, rfl, rfl, rfl⟩ | ⟨a, rfl, h1, h2, h3, h4, h5⟩
  · exact ⟨fun _ => by omega, by simp; omega, hn.ok, fun ad he => by cases he⟩
  · refine ⟨fun he => (by cases he), by omega, hn.ok, fun ad he i hi => ?_⟩
    injection he with he
    subst he
    exact h4 i (by omega)

/-- The numbers that are asked for. -/
def asked (zs : List Int) (M : Nat) : List Int := [-1, 0, 63, 64, 65, 300] ++ zs.take M
theorem asked_len {zs : List Int} {M : Nat} (h : M ≤ zs.length) : (asked zs M).length = 6 + M := by unfold asked; simp; omega
theorem asked_in {zs : List Int} {M : Nat} (hi : ∀ i, i < M → I64 (zs.getD i 0)) {k : Nat} (hk : k < 6 + M) : I64 ((asked zs M).getD k 0) := by
  unfold asked
  rw [List.getD_eq_getElem?_getD]
  by_cases h6 : k < 6
  · rw [List.getElem?_append_left (by simpa using h6)]
    match k, h6 with
    | 0, _ => exact ⟨by decide, by decide⟩
    | 1, _ => exact ⟨by decide, by decide⟩
    | 2, _ => exact ⟨by decide, by decide⟩
    | 3, _ => exact ⟨by decide, by decide⟩
    | 4, _ => exact ⟨by decide, by decide⟩
    | 5, _ => exact ⟨by decide, by decide⟩
  · rw [List.getElem?_append_right (by simp; omega)]
    have := hi (k - 6) (by omega)
    rw [List.getD_eq_getElem?_getD] at this
    simpa [List.getElem?_take, show k - 6 < M by omega] using this
def ni (l : List Int) : List Value := l.map fun z => Value.int .i64 z
/-- A row of numbers in block g. -/
structure Ints (w : World) (g : Nat) (l : List Int) : Prop where
  mk ::
  size : g < w.heap.size
  at_ : ∀ i, i < l.length → w.cell? ⟨g, i, none⟩ = some (.int .i64 (l.getD i 0))
theorem Ints.below {w w' : World} {g : Nat} {l : List Int} (h : Ints w g l) (hb : Below w.heap.size w w') : Ints w' g l :=
  ⟨Nat.lt_of_lt_of_le h.size hb.size, fun i hi => by rw [hb.cell (by exact h.size)]; exact h.at_ i hi⟩
theorem ints_of_owns {w : World} {base : Nat} {v : Value} {l : List Int} (h0 : l ≠ []) (h : w.ownsRow base 3 1 v l.length (ni l)) : ∃ g cap, v = .slice (some ⟨g, 0, none⟩) l.length cap ∧ l.length ≤ cap ∧ cap ≤ maxLen ∧ Ints w g l := by
  have hh := h
  obtain ⟨h1, ⟨h2, h3⟩ | ⟨g, cap, cur, h2, h3, h4, h5, h6, h7, h8⟩⟩ := h
  · exact absurd (List.eq_nil_of_length_eq_zero h3) h0
  · subst h2
    refine ⟨g, cap, rfl, h5, h6, ⟨(Array.getElem?_eq_some_iff.1 h4).1, fun i hi => ?_⟩⟩
    rw [World.ownsRow.cellAt hh i (by omega)]
    simp [ni, List.getD_eq_getElem?_getD, hi]
theorem belowL_le (l : List Nat) (i : Int) (k : Nat) : belowL l i k ≤ k := by
  induction k with
  | zero => exact Nat.le_refl _
  | succ k ih => rw [belowL]; split <;> omega
theorem xor_is (n : Nat) (p q : Nat → Bool) (i : Nat) (hi : i < n) : lessP n (orP n p q) (andP n p q) i = xorP n p q i := by
  unfold lessP orP andP xorP
  rw [decide_eq_true hi]
  cases p i <;> cases q i <;> rfl

set_option maxHeartbeats 40000000 in
theorem walk (s1 s2 : Int) (x1 : Option Addr) (l1 c1 : Nat) (z1 : List Int) (x2 : Option Addr) (l2 c2 : Nat) (z2 : List Int) (w : World) (hs1 : I64 s1) (hs2 : I64 s2) (r1 : IsRow w x1 l1 c1 z1) (r2 : IsRow w x2 l2 c2 z2) (hL : LibOk w) :
    Calls Tryd.prog 7 #[.agg #[.int .i64 s1, .int .i64 s2], .slice x1 l1 c1, .slice x2 l2 c2] w fun e w' => e = .returned (.bool true) ∧ Below w.heap.size w w' := by
  obtain ⟨k1, k2⟩ := row_cap r1
  obtain ⟨M, hM, hM1, hM2⟩ : ∃ L : Nat, min (l2 : Int) 100 = (L : Int) ∧ L ≤ l2 ∧ L ≤ 100 := ⟨min l2 100, by omega, by omega, by omega⟩
  have RA := Lib.hid (rowAt_of r2 hM1)
  obtain ⟨k3, k4⟩ := row_cap r2
  have b0 := one_below w (.cells #[.int .i64 s1, .int .i64 s2] 43)
  have M1 := made_any s1 x1 l1 c1 z1 _ hs1 k1 k2 (fun L hL => (nums_of r1 hL).below b0)
  have M2 := fun W hb => made_any s2 x2 l2 c2 z2 W hs2 k3 k4 (fun L hL => (nums_of r2 hL).below hb)
  have hz1 := sz_lt s1
  have hz2 := sz_lt s2
  have HZ := Lib.hid (sbox_new w (.int .i64 s1) (.int .i64 s2) 43)
  have HB := Lib.hid b0
  have HL := Lib.hid hL
  generalize sz s1 = n at *
  generalize sz s2 = m at *
  have k4' := k4
  unfold maxLen at k4'
  clear r1 r2 hs1 hs2 hL b0
  go_enter Tryd.func7, Tryd.ntmps7
  go_wp2_with fail
  with_reducible refine M1.mono ?_
  rintro e w1 ⟨⟨p, xa, ca, ya, da, rfl, S1, D1⟩, b1⟩
  have b1' := on b1 (one_below w1 (.cells #[.int .i64 n, .slice xa (nw n) ca] 25))
  have HB1 := Lib.hid (on HB.out b1')
  have M2 := M2 _ HB1.out
  have HZ := Lib.hid (HZ.out.next b1')
  have HA := Lib.hid (sbox_new w1 (.int .i64 n) (.slice xa (nw n) ca) 25)
  have HSA := Lib.hid (S1.below (one_below w1 (.cells #[.int .i64 n, .slice xa (nw n) ca] 25)))
  have HDA := Lib.hid (D1.below (one_below w1 (.cells #[.int .i64 n, .slice xa (nw n) ca] 25)))
  clear b1 b1' S1 D1 M1 HB
  obtain ⟨q0, q1, q2, q3, q4⟩ := HZ.out
  go_wp2_with fail
  with_reducible refine M2.mono ?_
  rintro e w2 ⟨⟨q, xb, cb, yb, db, rfl, S2, D2⟩, b2⟩
  have b2' := on b2 (one_below w2 (.cells #[.int .i64 m, .slice xb (nw m) cb] 25))
  have HB2 := on HB1.out b2'
  have P : Hid (Two w n m p q w1.heap.size w2.heap.size xa ca xb cb ya da yb db (w2.alloc (.cells #[.int .i64 m, .slice xb (nw m) cb] 25))) :=
    ⟨HA.out.next b2', sbox_new w2 _ _ _, HSA.out.below b2', S2.below (one_below _ _), HDA.out.below b2', D2.below (one_below _ _), HL.out.below HB2, HB2⟩
  clear b2 b2' S2 D2 M2 HB1 HZ HA HSA HDA HL HB2 q0 q1 q2 q3 q4
  obtain ⟨a0, a1, a2, a3⟩ := P.out.cells
  have RA := Lib.hid (RA.out.below P.out.be)
  go_wp2_with fail
  with_reducible refine (each_or n m p q ya yb da db (by omega) P.out.SB.out _ P.out.X P.out.Y).mono ?_
  rintro e w4 ⟨⟨u1, v1, rfl, D⟩, b⟩
  have HD1 := Lib.hid D
  clear D
  have P := Lib.hid (P.out.next b)
  have RA := Lib.hid (RA.out.below b)
  clear a0 a1 a2 a3 b
  obtain ⟨a0, a1, a2, a3⟩ := P.out.cells
  go_wp2_with fail
  with_reducible refine (each_and n m p q ya yb da db (by omega) P.out.SB.out _ P.out.X P.out.Y).mono ?_
  rintro e w5 ⟨⟨u2, v2, rfl, D⟩, b⟩
  have HD2 := Lib.hid D
  clear D
  have P := Lib.hid (P.out.next b)
  have RA := Lib.hid (RA.out.below b)
  have HD1 := Lib.hid (HD1.out.below b)
  clear a0 a1 a2 a3 b
  obtain ⟨a0, a1, a2, a3⟩ := P.out.cells
  go_wp2_with fail
  with_reducible refine (each_less n n (orP n p q) (andP n p q) u1 u2 v1 v2 (by omega) (andP_out n p q) _ HD1.out HD2.out).mono ?_
  rintro e w6 ⟨⟨u3, v3, rfl, D⟩, b⟩
  have HD3 := Lib.hid (D.congr (xor_is n p q))
  clear D
  have P := Lib.hid (P.out.next b)
  have RA := Lib.hid (RA.out.below b)
  have HD1 := Lib.hid (HD1.out.below b)
  have HD2 := Lib.hid (HD2.out.below b)
  clear a0 a1 a2 a3 b
  obtain ⟨a0, a1, a2, a3⟩ := P.out.cells
  clear HD1 HD2
  go_wp2_with fail
  with_reducible refine (rlist_any ya da n p (by omega) _ P.out.X).mono ?_
  rintro e w7 ⟨⟨u4, v4, rfl, N⟩, b⟩
  have HN := Lib.hid N
  clear N
  have P := Lib.hid (P.out.next b)
  have RA := Lib.hid (RA.out.below b)
  have HD3 := Lib.hid (HD3.out.below b)
  clear a0 a1 a2 a3 b
  obtain ⟨a0, a1, a2, a3⟩ := P.out.cells
  have hll := lst_len p n
  have hcn := cnt_le p n
  have hat : ∀ i, i < (lst p n).length → (lst p n).getD i 0 < n := fun i hi => lst_at hi
  have hrk := belowL_rk p
  have hrk := fun i => hrk i n
  have HRK := Lib.hid hrk
  have HAT := Lib.hid hat
  have hL := lastP_lst p n
  obtain ⟨n1, n2⟩ := HN.out.cap_ok
  unfold maxLen at n2
  have LA := fun W h => last_any n xa ca p W h
  have RK := fun i W h => rank_any n xa ca p i W h
  rw [← hll] at hL HRK hcn
  generalize lst p n = L at *
  generalize lastP p n = la at *
  have XO := fun W h1 h2 => xor_any n m p q xa xb ca cb W h1 h2
  have C1 := fun W h1 h2 => compare_any n m p q xa xb ca cb W h1 h2
  have C2 := fun W h1 h2 => compare_any m n q p xb xa cb ca W h1 h2
  have D1 := fun h1 h2 h3 h4 W h5 h6 => rcmp_any n m p q ya yb da db h1 h2 h3 h4 W h5 h6
  have D2 := fun h1 h2 h3 h4 W h5 h6 => rcmp_any m n q p yb ya db da h1 h2 h3 h4 W h5 h6
  generalize cmpP p q (max n m) = r1 at *
  generalize cmpP q p (max m n) = r2 at *
  have Hll := Lib.hid hll
  clear hll hrk hat
  obtain ⟨i0, hi, hz0, hz1, hz2⟩ := info_parts infoI
  rcases hL with ⟨h0, h1⟩ | ⟨h0, h1⟩
  · have h0' : ¬ ((0 : Int) < (L.length : Int)) := by omega
    have H0 := Lib.hid h0
    subst h1
    clear h0
    go_wp2_with fail
    with_reducible refine (XO _ P.out.SA P.out.SB).mono ?_
    rintro e w21 ⟨⟨xs, cs, rfl, S⟩, b⟩
    have HS := Lib.hid S
    clear S
    have P := Lib.hid (P.out.next b)
    have RA := Lib.hid (RA.out.below b)
    have HD3 := Lib.hid (HD3.out.below b)
    have HN := Lib.hid (HN.out.below b)
    clear a0 a1 a2 a3 b
    obtain ⟨a0, a1, a2, a3⟩ := P.out.cells
    go_wp2_with fail
    with_reducible refine (same_any n (xorP n p q) xs u3 cs v3 _ HS.out HD3.out P.out.ok).mono ?_
    rintro e w22 ⟨rfl, b⟩
    have P := Lib.hid (P.out.next b)
    have RA := Lib.hid (RA.out.below b)
    have HD3 := Lib.hid (HD3.out.below b)
    have HN := Lib.hid (HN.out.below b)
    clear a0 a1 a2 a3 b
    obtain ⟨a0, a1, a2, a3⟩ := P.out.cells
    go_wp2_with fail
    with_reducible refine (LA _ P.out.SA).mono ?_
    rintro e w23 ⟨rfl, b⟩
    have P := Lib.hid (P.out.next b)
    have RA := Lib.hid (RA.out.below b)
    have HD3 := Lib.hid (HD3.out.below b)
    have HN := Lib.hid (HN.out.below b)
    clear a0 a1 a2 a3 b
    obtain ⟨a0, a1, a2, a3⟩ := P.out.cells
    go_wp2_with fail
    with_reducible refine (C1 _ P.out.SA P.out.SB).mono ?_
    rintro e w24 ⟨rfl, b⟩
    have P := Lib.hid (P.out.next b)
    have RA := Lib.hid (RA.out.below b)
    have HD3 := Lib.hid (HD3.out.below b)
    have HN := Lib.hid (HN.out.below b)
    clear a0 a1 a2 a3 b
    obtain ⟨a0, a1, a2, a3⟩ := P.out.cells
    go_wp2_with fail
    with_reducible refine (D1 (by omega) (by omega) P.out.SA.out P.out.SB.out _ P.out.X P.out.Y).mono ?_
    rintro e w25 ⟨rfl, rfl⟩
    go_wp2_with fail
    with_reducible refine (C2 _ P.out.SB P.out.SA).mono ?_
    rintro e w26 ⟨rfl, b⟩
    have P := Lib.hid (P.out.next b)
    have RA := Lib.hid (RA.out.below b)
    have HD3 := Lib.hid (HD3.out.below b)
    have HN := Lib.hid (HN.out.below b)
    clear a0 a1 a2 a3 b
    obtain ⟨a0, a1, a2, a3⟩ := P.out.cells
    go_wp2_with fail
    with_reducible refine (D2 (by omega) (by omega) P.out.SB.out P.out.SA.out _ P.out.Y P.out.X).mono ?_
    rintro e w27 ⟨rfl, rfl⟩
    clear HS HD3 XO C1 C2 D1 D2 LA a0 a1 a2 a3
    obtain ⟨ra1, ra2, ra3, ra4⟩ := RA.out
    have HE : Hid (∀ k, k < 6 + M → I64 ((asked z2 M).getD k 0)) := fun k hk => asked_in ra3 hk
    have HEL := Lib.hid (asked_len ra2)
    have hO := World.ownsRow_lit (base := w.heap.size) (e := 3) (size := 1) w27 #[.int .i64 (-1), .int .i64 0, .int .i64 63, .int .i64 64, .int .i64 65, .int .i64 300] 6 (by have := P.out.be.size; omega) (by unfold maxLen; omega) rfl
    cases x2 with
    | none =>
      obtain rfl := ra1 rfl
      have hE0 : asked z2 0 = [-1, 0, 63, 64, 65, 300] := by unfold asked; simp
      obtain ⟨g, cp, hge, _, _, hI⟩ := ints_of_owns (l := asked z2 0) (by rw [hE0]; simp) (by rw [hE0]; exact hO)
      rw [hE0] at hge
      injection hge with hg1 hg2 hg3
      injection hg1 with hg1
      injection hg1 with hg1
      subst hg1
      have bA := one_below w27 (.cells #[.int .i64 (-1), .int .i64 0, .int .i64 63, .int .i64 64, .int .i64 65, .int .i64 300] 3)
      have HI := Lib.hid hI
      have P := Lib.hid (P.out.next bA)
      have HN := Lib.hid (HN.out.below bA)
      clear hI hg2 hg3 hO bA ra4 hE0
      go_wp2
      go_loopw [89] (fun i wr => ∃ k : Nat, k ≤ 6 ∧ i = .int .i64 k ∧ Two w n m p q w1.heap.size w2.heap.size xa ca xb cb ya da yb db wr ∧ NumsAt wr u4 v4 L ∧ Ints wr w27.heap.size (asked z2 0)) (fun i _ => 6 - (intOf i).toNat)
      case atStart => exact ⟨0, by omega, rfl, P.out, HN.out, HI.out⟩
      case round =>
        clear P HN HI
        obtain ⟨k, hk, rfl, hP, hN, hI⟩ := hrel
        by_cases hlt : k < 6
        · have hck := hI.at_ k (by have := HEL.out; omega)
          have hvk := HE.out k (by have := HEL.out; omega)
          generalize ((asked z2 0)).getD k 0 = v at *
          obtain ⟨v0, v1⟩ := hvk
          have hgs := hI.size
          have HP := Lib.hid hP
          have HN := Lib.hid hN
          have HI := Lib.hid hI
          clear hP hN hI
          obtain ⟨wO, hwO⟩ : ∃ z, z = wr := ⟨wr, rfl⟩
          subst hwO
          go_wp2
          go_loopw [16, 95] (fun s j wr => ∃ t : Nat, t ≤ L.length ∧ j = .int .i64 t ∧ s = .int .i64 ((belowL L v t : Nat) : Int) ∧ wr = wO) (fun _ j _ => L.length - (intOf j).toNat)
          case atStart => exact ⟨0, by omega, rfl, rfl, rfl⟩
          case round =>
            clear hck
            obtain ⟨t, ht, rfl, rfl, rfl⟩ := hrel
            have hbd := belowL_le L v t
            by_cases hlt2 : t < L.length
            · obtain ⟨bl2, he2, _, hbl2⟩ := HN.out.at hlt2
              subst he2
              have hvt := HAT.out t hlt2
              have hst : Hid (belowL L v (t + 1) = belowL L v t + (if ((L.getD t 0 : Nat) : Int) < v then 1 else 0)) := rfl
              generalize L.getD t 0 = x0 at *
              generalize belowL L v t = b0 at *
              by_cases hx : (x0 : Int) < v
              · rw [if_pos hx] at hst
                go_wp2
                go_roundw
                case rel => exact ⟨t + 1, by omega, by go_num, by rw [hst.out]; go_num, trivial⟩
                case measure => simp [intOf]; omega
              · rw [if_neg hx] at hst
                go_wp2
                go_roundw
                case rel => exact ⟨t + 1, by omega, by go_num, by rw [hst.out]; go_num, trivial⟩
                case measure => simp [intOf]; omega
            · obtain rfl : t = L.length := by omega
              have RKv := RK v wr HP.out.SA
              rw [← HRK.out v] at RKv
              generalize belowL L v L.length = b0 at *
              obtain ⟨a0, a1, a2, a3⟩ := HP.out.cells
              go_wp2_with fail
              with_reducible refine RKv.mono ?_
              rintro e wz ⟨rfl, bz⟩
              have HP2 := Lib.hid (HP.out.next bz)
              have HN2 := Lib.hid (HN.out.below bz)
              have HI2 := Lib.hid (HI.out.below bz)
              clear bz RKv a0 a1 a2 a3 HP HN HI
              go_wp2
              go_roundw
              case rel => exact ⟨k + 1, by omega, by go_num, HP2.out, HN2.out, HI2.out⟩
              case measure => simp [intOf]; omega
        · have WA := wakes_any wr hP.ok
          have HB := Lib.hid hP.be
          clear hP hN hI
          go_wp2_with fail
          with_reducible refine WA.mono ?_
          rintro e wz ⟨rfl, bz⟩
          have B := on HB.out bz
          clear bz HB
          go_wp2
          go_ret
          exact ⟨rfl, B⟩
    | some ad =>
      have HA := Lib.hid (ra4 ad rfl)
      have hPs := P.out.be.size
      have hlen : (asked z2 M).length ≤ 106 := by rw [HEL.out]; omega
      go_wp2_with (at_builtin; refine wpList_append_own _ rfl _ _ 22 rfl w.heap.size 3 i0 (.int .i64 0) 1 8 Tryd.underlying22 hi hz0 hz1 hz2 rfl (by decide) _ _ _ rfl hO ad M c2 (ni (z2.take M)) rfl ?Al ?A1 ?A2 ?A3 ?A4 ?A5 ?_)
      case Al => simp [ni]; omega
      case A1 =>
        intro j u hj
        unfold ni at hj
        rw [List.getElem?_map] at hj
        obtain ⟨z, hz, rfl⟩ := Option.map_eq_some_iff.1 hj
        rw [List.getElem?_take] at hz
        split at hz
        · rename_i hjM
          have hcj := HA.out j hjM
          rw [List.getD_eq_getElem?_getD, hz] at hcj
          rw [(one_below w27 _).cell (World.block_lt_of_cell? _ _ hcj)]
          exact hcj
        · cases hz
      case A2 => intro u hu; unfold ni at hu; obtain ⟨z, _, rfl⟩ := List.mem_map.1 hu; rfl
      case A3 => unfold maxLen; omega
      case A4 => omega
      case A5 => simp; omega
      · intro v' w' hown hgrow _
        have hown2 : w'.ownsRow w.heap.size 3 1 v' (asked z2 M).length (ni (asked z2 M)) := by
          rw [HEL.out]; unfold asked ni; rw [List.map_append]; exact hown
        obtain ⟨g, cp, rfl, g1, g2, hI⟩ := ints_of_owns (by unfold asked; simp) hown2
        have bA : Below w27.heap.size w27 w' := (one_below w27 _).grown hgrow (by simp) (fun k hk => by simp [Value.ownBlock] at hk; omega)
        unfold maxLen at g2
        have HI := Lib.hid hI
        have P := Lib.hid (P.out.next bA)
        have HN := Lib.hid (HN.out.below bA)
        generalize asked z2 M = E at *
        clear hI hO bA ra4 hown hown2 hgrow HA
        go_wp2
        go_loopw [89] (fun i wr => ∃ k : Nat, k ≤ E.length ∧ i = .int .i64 k ∧ Two w n m p q w1.heap.size w2.heap.size xa ca xb cb ya da yb db wr ∧ NumsAt wr u4 v4 L ∧ Ints wr g E) (fun i _ => E.length - (intOf i).toNat)
        case atStart => exact ⟨0, by omega, rfl, P.out, HN.out, HI.out⟩
        case round =>
          clear P HN HI
          obtain ⟨k, hk, rfl, hP, hN, hI⟩ := hrel
          by_cases hlt : k < E.length
          · have hck := hI.at_ k (by omega)
            have hvk := HE.out k (by have := HEL.out; omega)
            generalize (E).getD k 0 = v at *
            obtain ⟨v0, v1⟩ := hvk
            have hgs := hI.size
            have HP := Lib.hid hP
            have HN := Lib.hid hN
            have HI := Lib.hid hI
            clear hP hN hI
            obtain ⟨wO, hwO⟩ : ∃ z, z = wr := ⟨wr, rfl⟩
            subst hwO
            go_wp2
            go_loopw [16, 95] (fun s j wr => ∃ t : Nat, t ≤ L.length ∧ j = .int .i64 t ∧ s = .int .i64 ((belowL L v t : Nat) : Int) ∧ wr = wO) (fun _ j _ => L.length - (intOf j).toNat)
            case atStart => exact ⟨0, by omega, rfl, rfl, rfl⟩
            case round =>
              clear hck
              obtain ⟨t, ht, rfl, rfl, rfl⟩ := hrel
              have hbd := belowL_le L v t
              by_cases hlt2 : t < L.length
              · obtain ⟨bl2, he2, _, hbl2⟩ := HN.out.at hlt2
                subst he2
                have hvt := HAT.out t hlt2
                have hst : Hid (belowL L v (t + 1) = belowL L v t + (if ((L.getD t 0 : Nat) : Int) < v then 1 else 0)) := rfl
                generalize L.getD t 0 = x0 at *
                generalize belowL L v t = b0 at *
                by_cases hx : (x0 : Int) < v
                · rw [if_pos hx] at hst
                  go_wp2
                  go_roundw
                  case rel => exact ⟨t + 1, by omega, by go_num, by rw [hst.out]; go_num, trivial⟩
                  case measure => simp [intOf]; omega
                · rw [if_neg hx] at hst
                  go_wp2
                  go_roundw
                  case rel => exact ⟨t + 1, by omega, by go_num, by rw [hst.out]; go_num, trivial⟩
                  case measure => simp [intOf]; omega
              · obtain rfl : t = L.length := by omega
                have RKv := RK v wr HP.out.SA
                rw [← HRK.out v] at RKv
                generalize belowL L v L.length = b0 at *
                obtain ⟨a0, a1, a2, a3⟩ := HP.out.cells
                go_wp2_with fail
                with_reducible refine RKv.mono ?_
                rintro e wz ⟨rfl, bz⟩
                have HP2 := Lib.hid (HP.out.next bz)
                have HN2 := Lib.hid (HN.out.below bz)
                have HI2 := Lib.hid (HI.out.below bz)
                clear bz RKv a0 a1 a2 a3 HP HN HI
                go_wp2
                go_roundw
                case rel => exact ⟨k + 1, by omega, by go_num, HP2.out, HN2.out, HI2.out⟩
                case measure => simp [intOf]; omega
          · have WA := wakes_any wr hP.ok
            have HB := Lib.hid hP.be
            clear hP hN hI
            go_wp2_with fail
            with_reducible refine WA.mono ?_
            rintro e wz ⟨rfl, bz⟩
            have B := on HB.out bz
            clear bz HB
            go_wp2
            go_ret
            exact ⟨rfl, B⟩
  · have h0' : (0 : Int) < (L.length : Int) := by omega
    obtain ⟨K, hK⟩ : ∃ K, L.length = K + 1 := ⟨L.length - 1, by omega⟩
    have hK1 : (L.length : Int) - 1 = (K : Int) := by omega
    have hK2 : (K : Int) < (L.length : Int) := by omega
    obtain ⟨bl, rfl, _, hbl⟩ := HN.out.at (k := K) (by omega)
    rw [show L.length - 1 = K by omega] at h1
    have hv := HAT.out K (by omega)
    subst h1
    generalize L.getD K 0 = vl at *
    have H0 := Lib.hid hK
    clear h0 hK
    go_wp2_with fail
    with_reducible refine (XO _ P.out.SA P.out.SB).mono ?_
    rintro e w21 ⟨⟨xs, cs, rfl, S⟩, b⟩
    have HS := Lib.hid S
    clear S
    have P := Lib.hid (P.out.next b)
    have RA := Lib.hid (RA.out.below b)
    have HD3 := Lib.hid (HD3.out.below b)
    have HN := Lib.hid (HN.out.below b)
    clear a0 a1 a2 a3 b
    try clear hbl
    obtain ⟨a0, a1, a2, a3⟩ := P.out.cells
    go_wp2_with fail
    with_reducible refine (same_any n (xorP n p q) xs u3 cs v3 _ HS.out HD3.out P.out.ok).mono ?_
    rintro e w22 ⟨rfl, b⟩
    have P := Lib.hid (P.out.next b)
    have RA := Lib.hid (RA.out.below b)
    have HD3 := Lib.hid (HD3.out.below b)
    have HN := Lib.hid (HN.out.below b)
    clear a0 a1 a2 a3 b
    obtain ⟨a0, a1, a2, a3⟩ := P.out.cells
    go_wp2_with fail
    with_reducible refine (LA _ P.out.SA).mono ?_
    rintro e w23 ⟨rfl, b⟩
    have P := Lib.hid (P.out.next b)
    have RA := Lib.hid (RA.out.below b)
    have HD3 := Lib.hid (HD3.out.below b)
    have HN := Lib.hid (HN.out.below b)
    clear a0 a1 a2 a3 b
    obtain ⟨a0, a1, a2, a3⟩ := P.out.cells
    go_wp2_with fail
    with_reducible refine (C1 _ P.out.SA P.out.SB).mono ?_
    rintro e w24 ⟨rfl, b⟩
    have P := Lib.hid (P.out.next b)
    have RA := Lib.hid (RA.out.below b)
    have HD3 := Lib.hid (HD3.out.below b)
    have HN := Lib.hid (HN.out.below b)
    clear a0 a1 a2 a3 b
    obtain ⟨a0, a1, a2, a3⟩ := P.out.cells
    go_wp2_with fail
    with_reducible refine (D1 (by omega) (by omega) P.out.SA.out P.out.SB.out _ P.out.X P.out.Y).mono ?_
    rintro e w25 ⟨rfl, rfl⟩
    go_wp2_with fail
    with_reducible refine (C2 _ P.out.SB P.out.SA).mono ?_
    rintro e w26 ⟨rfl, b⟩
    have P := Lib.hid (P.out.next b)
    have RA := Lib.hid (RA.out.below b)
    have HD3 := Lib.hid (HD3.out.below b)
    have HN := Lib.hid (HN.out.below b)
    clear a0 a1 a2 a3 b
    obtain ⟨a0, a1, a2, a3⟩ := P.out.cells
    go_wp2_with fail
    with_reducible refine (D2 (by omega) (by omega) P.out.SB.out P.out.SA.out _ P.out.Y P.out.X).mono ?_
    rintro e w27 ⟨rfl, rfl⟩
    clear HS HD3 XO C1 C2 D1 D2 LA a0 a1 a2 a3
    obtain ⟨ra1, ra2, ra3, ra4⟩ := RA.out
    have HE : Hid (∀ k, k < 6 + M → I64 ((asked z2 M).getD k 0)) := fun k hk => asked_in ra3 hk
    have HEL := Lib.hid (asked_len ra2)
    have hO := World.ownsRow_lit (base := w.heap.size) (e := 3) (size := 1) w27 #[.int .i64 (-1), .int .i64 0, .int .i64 63, .int .i64 64, .int .i64 65, .int .i64 300] 6 (by have := P.out.be.size; omega) (by unfold maxLen; omega) rfl
    cases x2 with
    | none =>
      obtain rfl := ra1 rfl
      have hE0 : asked z2 0 = [-1, 0, 63, 64, 65, 300] := by unfold asked; simp
      obtain ⟨g, cp, hge, _, _, hI⟩ := ints_of_owns (l := asked z2 0) (by rw [hE0]; simp) (by rw [hE0]; exact hO)
      rw [hE0] at hge
      injection hge with hg1 hg2 hg3
      injection hg1 with hg1
      injection hg1 with hg1
      subst hg1
      have bA := one_below w27 (.cells #[.int .i64 (-1), .int .i64 0, .int .i64 63, .int .i64 64, .int .i64 65, .int .i64 300] 3)
      have HI := Lib.hid hI
      have P := Lib.hid (P.out.next bA)
      have HN := Lib.hid (HN.out.below bA)
      clear hI hg2 hg3 hO bA ra4 hE0
      go_wp2
      go_loopw [89] (fun i wr => ∃ k : Nat, k ≤ 6 ∧ i = .int .i64 k ∧ Two w n m p q w1.heap.size w2.heap.size xa ca xb cb ya da yb db wr ∧ NumsAt wr (some ⟨bl, 0, none⟩) v4 L ∧ Ints wr w27.heap.size (asked z2 0)) (fun i _ => 6 - (intOf i).toNat)
      case atStart => exact ⟨0, by omega, rfl, P.out, HN.out, HI.out⟩
      case round =>
        clear P HN HI
        obtain ⟨k, hk, rfl, hP, hN, hI⟩ := hrel
        by_cases hlt : k < 6
        · have hck := hI.at_ k (by have := HEL.out; omega)
          have hvk := HE.out k (by have := HEL.out; omega)
          generalize ((asked z2 0)).getD k 0 = v at *
          obtain ⟨v0, v1⟩ := hvk
          have hgs := hI.size
          have HP := Lib.hid hP
          have HN := Lib.hid hN
          have HI := Lib.hid hI
          clear hP hN hI
          obtain ⟨wO, hwO⟩ : ∃ z, z = wr := ⟨wr, rfl⟩
          subst hwO
          go_wp2
          go_loopw [16, 95] (fun s j wr => ∃ t : Nat, t ≤ L.length ∧ j = .int .i64 t ∧ s = .int .i64 ((belowL L v t : Nat) : Int) ∧ wr = wO) (fun _ j _ => L.length - (intOf j).toNat)
          case atStart => exact ⟨0, by omega, rfl, rfl, rfl⟩
          case round =>
            clear hck
            obtain ⟨t, ht, rfl, rfl, rfl⟩ := hrel
            have hbd := belowL_le L v t
            by_cases hlt2 : t < L.length
            · obtain ⟨bl2, he2, _, hbl2⟩ := HN.out.at hlt2
              injection he2 with he2; injection he2 with he2; subst he2
              have hvt := HAT.out t hlt2
              have hst : Hid (belowL L v (t + 1) = belowL L v t + (if ((L.getD t 0 : Nat) : Int) < v then 1 else 0)) := rfl
              generalize L.getD t 0 = x0 at *
              generalize belowL L v t = b0 at *
              by_cases hx : (x0 : Int) < v
              · rw [if_pos hx] at hst
                go_wp2
                go_roundw
                case rel => exact ⟨t + 1, by omega, by go_num, by rw [hst.out]; go_num, trivial⟩
                case measure => simp [intOf]; omega
              · rw [if_neg hx] at hst
                go_wp2
                go_roundw
                case rel => exact ⟨t + 1, by omega, by go_num, by rw [hst.out]; go_num, trivial⟩
                case measure => simp [intOf]; omega
            · obtain rfl : t = L.length := by omega
              have RKv := RK v wr HP.out.SA
              rw [← HRK.out v] at RKv
              generalize belowL L v L.length = b0 at *
              obtain ⟨a0, a1, a2, a3⟩ := HP.out.cells
              go_wp2_with fail
              with_reducible refine RKv.mono ?_
              rintro e wz ⟨rfl, bz⟩
              have HP2 := Lib.hid (HP.out.next bz)
              have HN2 := Lib.hid (HN.out.below bz)
              have HI2 := Lib.hid (HI.out.below bz)
              clear bz RKv a0 a1 a2 a3 HP HN HI
              go_wp2
              go_roundw
              case rel => exact ⟨k + 1, by omega, by go_num, HP2.out, HN2.out, HI2.out⟩
              case measure => simp [intOf]; omega
        · have WA := wakes_any wr hP.ok
          have HB := Lib.hid hP.be
          clear hP hN hI
          go_wp2_with fail
          with_reducible refine WA.mono ?_
          rintro e wz ⟨rfl, bz⟩
          have B := on HB.out bz
          clear bz HB
          go_wp2
          go_ret
          exact ⟨rfl, B⟩
    | some ad =>
      have HA := Lib.hid (ra4 ad rfl)
      have hPs := P.out.be.size
      have hlen : (asked z2 M).length ≤ 106 := by rw [HEL.out]; omega
      go_wp2_with (at_builtin; refine wpList_append_own _ rfl _ _ 22 rfl w.heap.size 3 i0 (.int .i64 0) 1 8 Tryd.underlying22 hi hz0 hz1 hz2 rfl (by decide) _ _ _ rfl hO ad M c2 (ni (z2.take M)) rfl ?Bl ?B1 ?B2 ?B3 ?B4 ?B5 ?_)
      case Bl => simp [ni]; omega
      case B1 =>
        intro j u hj
        unfold ni at hj
        rw [List.getElem?_map] at hj
        obtain ⟨z, hz, rfl⟩ := Option.map_eq_some_iff.1 hj
        rw [List.getElem?_take] at hz
        split at hz
        · rename_i hjM
          have hcj := HA.out j hjM
          rw [List.getD_eq_getElem?_getD, hz] at hcj
          rw [(one_below w27 _).cell (World.block_lt_of_cell? _ _ hcj)]
          exact hcj
        · cases hz
      case B2 => intro u hu; unfold ni at hu; obtain ⟨z, _, rfl⟩ := List.mem_map.1 hu; rfl
      case B3 => unfold maxLen; omega
      case B4 => omega
      case B5 => simp; omega
      · intro v' w' hown hgrow _
        have hown2 : w'.ownsRow w.heap.size 3 1 v' (asked z2 M).length (ni (asked z2 M)) := by
          rw [HEL.out]; unfold asked ni; rw [List.map_append]; exact hown
        obtain ⟨g, cp, rfl, g1, g2, hI⟩ := ints_of_owns (by unfold asked; simp) hown2
        have bA : Below w27.heap.size w27 w' := (one_below w27 _).grown hgrow (by simp) (fun k hk => by simp [Value.ownBlock] at hk; omega)
        unfold maxLen at g2
        have HI := Lib.hid hI
        have P := Lib.hid (P.out.next bA)
        have HN := Lib.hid (HN.out.below bA)
        generalize asked z2 M = E at *
        clear hI hO bA ra4 hown hown2 hgrow HA
        go_wp2
        go_loopw [89] (fun i wr => ∃ k : Nat, k ≤ E.length ∧ i = .int .i64 k ∧ Two w n m p q w1.heap.size w2.heap.size xa ca xb cb ya da yb db wr ∧ NumsAt wr (some ⟨bl, 0, none⟩) v4 L ∧ Ints wr g E) (fun i _ => E.length - (intOf i).toNat)
        case atStart => exact ⟨0, by omega, rfl, P.out, HN.out, HI.out⟩
        case round =>
          clear P HN HI
          obtain ⟨k, hk, rfl, hP, hN, hI⟩ := hrel
          by_cases hlt : k < E.length
          · have hck := hI.at_ k (by omega)
            have hvk := HE.out k (by have := HEL.out; omega)
            generalize (E).getD k 0 = v at *
            obtain ⟨v0, v1⟩ := hvk
            have hgs := hI.size
            have HP := Lib.hid hP
            have HN := Lib.hid hN
            have HI := Lib.hid hI
            clear hP hN hI
            obtain ⟨wO, hwO⟩ : ∃ z, z = wr := ⟨wr, rfl⟩
            subst hwO
            go_wp2
            go_loopw [16, 95] (fun s j wr => ∃ t : Nat, t ≤ L.length ∧ j = .int .i64 t ∧ s = .int .i64 ((belowL L v t : Nat) : Int) ∧ wr = wO) (fun _ j _ => L.length - (intOf j).toNat)
            case atStart => exact ⟨0, by omega, rfl, rfl, rfl⟩
            case round =>
              clear hck
              obtain ⟨t, ht, rfl, rfl, rfl⟩ := hrel
              have hbd := belowL_le L v t
              by_cases hlt2 : t < L.length
              · obtain ⟨bl2, he2, _, hbl2⟩ := HN.out.at hlt2
                injection he2 with he2; injection he2 with he2; subst he2
                have hvt := HAT.out t hlt2
                have hst : Hid (belowL L v (t + 1) = belowL L v t + (if ((L.getD t 0 : Nat) : Int) < v then 1 else 0)) := rfl
                generalize L.getD t 0 = x0 at *
                generalize belowL L v t = b0 at *
                by_cases hx : (x0 : Int) < v
                · rw [if_pos hx] at hst
                  go_wp2
                  go_roundw
                  case rel => exact ⟨t + 1, by omega, by go_num, by rw [hst.out]; go_num, trivial⟩
                  case measure => simp [intOf]; omega
                · rw [if_neg hx] at hst
                  go_wp2
                  go_roundw
                  case rel => exact ⟨t + 1, by omega, by go_num, by rw [hst.out]; go_num, trivial⟩
                  case measure => simp [intOf]; omega
              · obtain rfl : t = L.length := by omega
                have RKv := RK v wr HP.out.SA
                rw [← HRK.out v] at RKv
                generalize belowL L v L.length = b0 at *
                obtain ⟨a0, a1, a2, a3⟩ := HP.out.cells
                go_wp2_with fail
                with_reducible refine RKv.mono ?_
                rintro e wz ⟨rfl, bz⟩
                have HP2 := Lib.hid (HP.out.next bz)
                have HN2 := Lib.hid (HN.out.below bz)
                have HI2 := Lib.hid (HI.out.below bz)
                clear bz RKv a0 a1 a2 a3 HP HN HI
                go_wp2
                go_roundw
                case rel => exact ⟨k + 1, by omega, by go_num, HP2.out, HN2.out, HI2.out⟩
                case measure => simp [intOf]; omega
          · have WA := wakes_any wr hP.ok
            have HB := Lib.hid hP.be
            clear hP hN hI
            go_wp2_with fail
            with_reducible refine WA.mono ?_
            rintro e wz ⟨rfl, bz⟩
            have B := on HB.out bz
            clear bz HB
            go_wp2
            go_ret
            exact ⟨rfl, B⟩

/-! ### the row -/
open Go.ChangeShapes Go.WideShapes Go.ChangeAt
theorem lifted (os : Os) (started : os.Started) (H : Type) (enc : TypeId × Value → H) :
    ReturnsInHanded {} Tryd.checked os 7 .any (fun w args => (Rows.bitsetOrdersSpec.pre enc Tryd.prog Tryd.f7 [] false w args ∧ laidMetH Tryd.prog laidL w) ∧ sizedMet enc Tryd.prog Tryd.f7 (OpenSpec.ofChange Rows.bitsetOrdersSpec) false w args)
      (Rows.bitsetOrdersSpec.post enc Tryd.prog Tryd.f7 false true false false) := by
  refine returnsInHanded_of_change_and (C := Tryd.checked) (X := fun w _ => laidMetH Tryd.prog laidL w) (fun _ _ _ hh h => h.of_heap hh) own started (by kernel_rfl) Tryd.func7
    (ChangeSpec.witness_shaped (enc := enc) (C := Tryd.checked) (os := os) (X := fun w _ => laidMetH Tryd.prog laidL w) false (World.doorLaid Tryd.prog 400 os) #[.agg #[.int .i64 0, .int .i64 0], .slice none 0 0, .slice none 0 0] 8 rfl (World.shaped_of_RefB (by kernel_rfl) (by kernel_rfl)) (by kernel_rfl) (by kernel_rfl) (by kernel_rfl) (door_met os _)) ?_
  intro W base args ds gs before hval0 hW _ hsz0 hL _
  have hval : ∀ (j : Nat) t v, Tryd.f7.params[j]? = some t → args[j]? = some v → Value.okWide Tryd.prog W .any base t v := hval0
  have hW' := hW
  obtain ⟨p, q, hA0, hV, rfl, hfz, hnd⟩ := hW
  have hA : DataW.TrodAll enc Tryd.prog W 0 (fun _ => true) true Tryd.f7.params.toList args.toList ds p := hA0
  rw [Tryd.params7] at hA hval
  obtain ⟨v0, vs0, d0, ds0, p0, q0, hargs, rfl, rfl, h0, r0⟩ := trodAll_cons hA
  obtain ⟨v1, vs1, d1, ds1, p1, q1, rfl, rfl, rfl, h1, r1⟩ := trodAll_cons r0
  obtain ⟨v2, vs2, d2, ds2, p2, q2, rfl, rfl, rfl, h2, r2⟩ := trodAll_cons r1
  obtain ⟨rfl, rfl, rfl⟩ := trodAll_nil r2
  obtain rfl : args = #[v0, v1, v2] := by cases args; simp_all
  obtain ⟨rfl, rfl⟩ := trodVars_none hV
  have k0 := h0
  have lt0 : ∀ x ∈ p0, x.block < W.heap.size := by obtain ⟨m, hm⟩ := k0; exact DataW.trod_lt m _ _ _ hm
  obtain ⟨a0, b0, wa0, wb0, rfl⟩ := open_pair (hval 0 43 v0 rfl rfl) h0
  have k1 := h1
  have lt1 : ∀ x ∈ p1, x.block < W.heap.size := by obtain ⟨m, hm⟩ := k1; exact DataW.trod_lt m _ _ _ hm
  obtain ⟨x1, l1, c1, zs1, w1, rfl⟩ := open_row (hval 1 22 v1 rfl rfl) h1
  have k2 := h2
  have lt2 : ∀ x ∈ p2, x.block < W.heap.size := by obtain ⟨m, hm⟩ := k2; exact DataW.trod_lt m _ _ _ hm
  obtain ⟨x2, l2, c2, zs2, w2, rfl⟩ := open_row (hval 2 22 v2 rfl rfl) h2
  clear hA0 hval0
  refine (walk a0 b0 x1 l1 c1 zs1 x2 l2 c2 zs2 W wa0 wb0 w1 w2 (libOk_of_laid hL)).mono fun e W' ⟨he, bel⟩ => ?_
  subst he
  exact ⟨_, rfl, _, _, _, [], _, [], hW', trodAll_mk1 (shut_bool Tryd.underlying4 _), (trodAll_cons_mk (Below.trod laidOut (by kernel_rfl) (of_decide_eq_true (by kernel_rfl)) k0 bel lt0) (trodAll_cons_mk (Below.trod laidOut (by kernel_rfl) (of_decide_eq_true (by kernel_rfl)) k1 bel lt1) (trodAll_cons_mk (Below.trod laidOut (by kernel_rfl) (of_decide_eq_true (by kernel_rfl)) k2 bel lt2) trodAll_mk0))), rfl, bel.frame _, fun h => by cases h⟩

theorem over : Rows.bitsetOrdersRow.holds Tryd.pinned (OpenSpec.ofChange Rows.bitsetOrdersSpec) :=
  OpenClaim.holds_of_wide 7 Tryd.f7 rfl rfl rfl rfl rfl rfl rfl ⟨rfl, rfl, rfl, rfl, rfl⟩ rfl rfl rfl rfl rfl (by kernel_rfl) Tryd.func7 (by kernel_rfl)
    (of_decide_eq_true (by kernel_rfl)) (by unfold Func.isWrapper; first | (rw [if_pos (by decide +kernel)]; kernel_rfl) | (rw [if_neg (by decide +kernel)]; exact ⟨rfl, rfl⟩))
    (fun os started H enc _ => lifted os started H enc)

theorem card : Rows.BitsetOrdersCardSaid :=
  Claim7.holds_tied_plain_at .later [] [.data] true _ false
    over (fun _ h => by cases h) (by kernel_rfl) (fun _ h => by cases h) bitsetOrders_row_tie rfl ⟨rfl, rfl⟩ (by kernel_rfl) rfl
    (fun f fn hf hfn => by
      obtain rfl : f = 7 := Option.some.inj ((show Tryd.prog.funcNamed Rows.bitsetOrdersRow.func = some 7 by kernel_rfl).symm.trans hf) |>.symm
      obtain rfl : fn = Tryd.f7 := (Option.some.inj (Tryd.func7.symm.trans hfn)).symm
      exact ⟨by kernel_rfl, fun j t ht => by
        rw [Tryd.params7] at ht
        have hm : t ∈ [43, 22, 22] := by simpa using Array.mem_of_getElem? ht
        have hall : ([43, 22, 22].all fun u => !Tryd.prog.wantsStandIn u) = true := by kernel_rfl
        exact (show Tryd.prog.wantsStandIn t = false by simpa using List.all_eq_true.1 hall t hm)⟩)
    (by kernel_rfl)

end Go.Proofs.YtooehfjappckmaaDoor.bitsetOrders
namespace Go.Proofs.YtooehfjappckmaaDoor
theorem bitsetOrders_holds : Rows.BitsetOrdersCardSaid := bitsetOrders.card
#print axioms bitsetOrders_holds
end Go.Proofs.YtooehfjappckmaaDoor
