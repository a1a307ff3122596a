/-
  What stands does (layer 5's laws): of a list that stands right it says so.
-/
import Derived.Test.YtaeabihogidmfaaLawHeap
namespace Go.Proofs.Ytaeabihogidmfaa
set_option maxRecDepth 100000
open Go.RowKit Go.Sort

/-- The places below k, by number. -/
def sx (k j : Nat) : Nat := if j < 2 then 2 * k + 1 + j else 4 * k + 1 + j
theorem sx_bel {k j : Nat} (h : j < 6) : Bel k (sx k j) := by
  unfold Bel sx
  split <;> omega
theorem sx_le {k j : Nat} (h : j < 6) : sx k j ≤ 4 * k + 6 := by unfold sx; split <;> omega
/-- An entry within a block. -/
structure OBox (g o : Nat) (x : En) (w : World) : Prop where
  mk ::
  c0 : w.cell? ⟨g, o, none⟩ = some (.int .i64 x.b)
  c1 : w.cell? ⟨g, o + 1, none⟩ = some (.int .i64 x.d)
  c2 : w.cell? ⟨g, o + 2, none⟩ = some (.int .i64 x.s)
  c3 : w.cell? ⟨g, o + 3, none⟩ = some (.int .i64 x.i)
  size : g < w.heap.size
theorem OBox.next {g o : Nat} {x : En} {w w' : World} (h : OBox g o x w) (hb : Below w.heap.size w w') : OBox g o x w' :=
  ⟨by rw [hb.cell (by exact h.size)]; exact h.c0, by rw [hb.cell (by exact h.size)]; exact h.c1, by rw [hb.cell (by exact h.size)]; exact h.c2, by rw [hb.cell (by exact h.size)]; exact h.c3, Nat.lt_of_lt_of_le h.size hb.size⟩
theorem obox_of {w : World} {g i : Nat} {l : List En} (h : ListAt w g l) (hi : i < l.length) : OBox g (i * 4) (nth l i) w := by
  obtain ⟨a, b, c, d⟩ := h.nth hi
  exact ⟨a, b, c, d, h.1⟩
/-- The six places below k, in a block of the call's own. -/
structure SixAt (g k : Nat) (w : World) : Prop where
  mk ::
  at_ : ∀ j, j < 6 → w.cell? ⟨g, j, none⟩ = some (.int .i64 (sx k j : Nat))
  lt : g < w.heap.size
theorem SixAt.next {g k : Nat} {w w' : World} (h : SixAt g k w) (hb : Below w.heap.size w w') : SixAt g k w' :=
  ⟨fun j hj => by rw [hb.cell (by exact h.lt)]; exact h.at_ j hj, Nat.lt_of_lt_of_le h.lt hb.size⟩
theorem six_new (w : World) (k : Nat) (t : TypeId) : SixAt w.heap.size k (w.alloc (.cells #[.int .i64 (2 * (k : Int) + 1), .int .i64 (2 * (k : Int) + 2), .int .i64 (4 * (k : Int) + 3), .int .i64 (4 * (k : Int) + 4), .int .i64 (4 * (k : Int) + 5), .int .i64 (4 * (k : Int) + 6)] t)) := by
  have hn := heap_alloc_new w (.cells #[.int .i64 (2 * (k : Int) + 1), .int .i64 (2 * (k : Int) + 2), .int .i64 (4 * (k : Int) + 3), .int .i64 (4 * (k : Int) + 4), .int .i64 (4 * (k : Int) + 5), .int .i64 (4 * (k : Int) + 6)] t)
  refine ⟨fun j hj => ?_, by simp⟩
  rw [cell_of hn]
  match j, hj with
  | 0, _ => simp [sx]
  | 1, _ => simp [sx]; omega
  | 2, _ => simp [sx]; omega
  | 3, _ => simp [sx]; omega
  | 4, _ => simp [sx]; omega
  | 5, _ => simp [sx]; omega
def planN (gl n c _k kk : Nat) (_x _y : En) : Plan := { ks := [0, 0, 0, 0, 0, 0, 0, 0, 0, 0, 0, 0, 0, 0, 0, 0, 0, 0, 0, 0, 0, 0, 0, 0, 0, 0, 0, 0, 0, 0, 0, 0, 0], ds := [45, 46, 47, 48, 49, 50, 51, 52, 53, 54, 55, 56, 57, 58, 59, 60, 61, 62, 63, 64, 65, 66, 67, 68, 69, 70, 71, 72, 73, 74, 75, 76, 77], vs := [.int .i64 (kk : Int), .slice (some ⟨gl, 0, none⟩) n c, .int .i64 (n : Int), .bool false, .bool false, undef, undef, undef, undef, undef, undef, undef, undef, undef, undef, undef, undef, undef, undef, undef, undef, undef, undef, undef, undef, undef, undef, undef, undef, undef, undef, undef, .bool false], ss := [0, 0, 0, 0, 0, 0, 0, 0, 0, 0, 0, 0, 0, 0, 0, 0, 0, 0, 0, 0, 0, 0, 0, 0, 0, 0, 0, 0, 0, 0, 0, 0, 0], zs := [#[], #[], #[], #[], #[], #[], #[], #[], #[], #[], #[], #[], #[], #[], #[], #[], #[], #[], #[], #[], #[], #[], #[], #[], #[], #[], #[], #[], #[], #[], #[], #[], #[]], fs := [#[], #[], #[], #[], #[], #[], #[], #[], #[], #[], #[], #[], #[], #[], #[], #[], #[], #[], #[], #[], #[], #[], #[], #[], #[], #[], #[], #[], #[], #[], #[], #[], #[]], ts := [0, 0, 0, 0, 0, 0, 0, 0, 0, 0, 0, 0, 0, 0, 0, 0, 0, 0, 0, 0, 0, 0, 0, 0, 0, 0, 0, 0, 0, 0, 0, 0, 0] }
def planS (gl n c k kk : Nat) (x y : En) : Plan := { ks := [0, 0, 0, 0, 0, 0, 0, 0, 0, 0, 0, 0, 0, 0, 0, 0, 0, 0, 0, 0, 0, 0, 0, 0, 0, 0, 0, 0, 0, 0, 0, 0, 0], ds := [45, 46, 47, 48, 49, 50, 51, 52, 53, 54, 55, 56, 57, 58, 59, 60, 61, 62, 63, 64, 65, 66, 67, 68, 69, 70, 71, 72, 73, 74, 75, 76, 77], vs := [.int .i64 (kk : Int), .slice (some ⟨gl, 0, none⟩) n c, .int .i64 (n : Int), .bool true, .bool true, .bool true, .bool true, .slice (some ⟨gl, 0, none⟩) n c, .int .i64 (kk : Int), .pointer (some ⟨gl, kk * 4, none⟩), .agg #[.int .i64 y.b, .int .i64 y.d, .int .i64 y.s, .int .i64 y.i], .slice (some ⟨gl, 0, none⟩) n c, .int .i64 (k : Int), .pointer (some ⟨gl, k * 4, none⟩), .agg #[.int .i64 x.b, .int .i64 x.d, .int .i64 x.s, .int .i64 x.i], .bool false, .bool false, .bool false, .bool true, .bool false, .bool false, undef, undef, undef, undef, undef, undef, undef, undef, undef, .bool false, .bool false, .bool false], ss := [0, 0, 0, 0, 0, 0, 0, 0, 0, 0, 0, 0, 0, 0, 0, 0, 0, 0, 0, 0, 0, 0, 0, 0, 0, 0, 0, 0, 0, 0, 0, 0, 0], zs := [#[], #[], #[], #[], #[], #[], #[], #[], #[], #[], #[], #[], #[], #[], #[], #[], #[], #[], #[], #[], #[], #[], #[], #[], #[], #[], #[], #[], #[], #[], #[], #[], #[]], fs := [#[], #[], #[], #[], #[], #[], #[], #[], #[], #[], #[], #[], #[], #[], #[], #[], #[], #[], #[], #[], #[], #[], #[], #[], #[], #[], #[], #[], #[], #[], #[], #[], #[]], ts := [0, 0, 0, 0, 0, 0, 0, 0, 0, 0, 0, 0, 0, 0, 0, 0, 0, 0, 0, 0, 0, 0, 0, 0, 0, 0, 0, 0, 0, 0, 0, 0, 0] }
def planB (gl n c k kk : Nat) (x y : En) : Plan := { ks := [0, 0, 0, 0, 0, 0, 0, 0, 0, 0, 0, 0, 0, 0, 0, 0, 0, 0, 0, 0, 0, 0, 0, 0, 0, 0, 0, 0, 0, 0, 0, 0, 0], ds := [45, 46, 47, 48, 49, 50, 51, 52, 53, 54, 55, 56, 57, 58, 59, 60, 61, 62, 63, 64, 65, 66, 67, 68, 69, 70, 71, 72, 73, 74, 75, 76, 77], vs := [.int .i64 (kk : Int), .slice (some ⟨gl, 0, none⟩) n c, .int .i64 (n : Int), .bool true, .bool true, .bool false, .bool false, undef, undef, undef, undef, undef, undef, undef, undef, undef, .bool false, .bool false, .bool false, .bool true, .bool true, .slice (some ⟨gl, 0, none⟩) n c, .int .i64 (k : Int), .pointer (some ⟨gl, k * 4, none⟩), .agg #[.int .i64 x.b, .int .i64 x.d, .int .i64 x.s, .int .i64 x.i], .slice (some ⟨gl, 0, none⟩) n c, .int .i64 (kk : Int), .pointer (some ⟨gl, kk * 4, none⟩), .agg #[.int .i64 y.b, .int .i64 y.d, .int .i64 y.s, .int .i64 y.i], .bool false, .bool false, .bool false, .bool false], ss := [0, 0, 0, 0, 0, 0, 0, 0, 0, 0, 0, 0, 0, 0, 0, 0, 0, 0, 0, 0, 0, 0, 0, 0, 0, 0, 0, 0, 0, 0, 0, 0, 0], zs := [#[], #[], #[], #[], #[], #[], #[], #[], #[], #[], #[], #[], #[], #[], #[], #[], #[], #[], #[], #[], #[], #[], #[], #[], #[], #[], #[], #[], #[], #[], #[], #[], #[]], fs := [#[], #[], #[], #[], #[], #[], #[], #[], #[], #[], #[], #[], #[], #[], #[], #[], #[], #[], #[], #[], #[], #[], #[], #[], #[], #[], #[], #[], #[], #[], #[], #[], #[]], ts := [0, 0, 0, 0, 0, 0, 0, 0, 0, 0, 0, 0, 0, 0, 0, 0, 0, 0, 0, 0, 0, 0, 0, 0, 0, 0, 0, 0, 0, 0, 0, 0, 0] }

set_option maxHeartbeats 40000000 in
theorem stands_some (l : List En) (hn : l.length ≤ 1000) (hr : Right l) (gl c : Nat) (w : World) (hL : ListAt w gl l) :
    Calls Try.prog 19 #[.slice (some ⟨gl, 0, none⟩) l.length c] w fun e w' => e = .returned (.bool true) ∧ Below w.heap.size w w' := by
  obtain ⟨n, en⟩ : ∃ n, l.length = n := ⟨_, rfl⟩
  have EN := Lib.hid en
  have HL := Lib.hid hL
  have HR := Lib.hid hr
  rw [en] at hn ⊢
  clear en hL hr
  go_enter Try.func19, Try.ntmps19
  go_wp2
  go_loopw [10] (fun i wr => ∃ k : Nat, k ≤ n ∧ i = .int .i64 k ∧ Below w.heap.size w wr) (fun i _ => n - (intOf i).toNat)
  case atStart => exact ⟨0, by omega, rfl, Below.refl _ _⟩
  case round =>
    obtain ⟨k, hk, rfl, hbe⟩ := hrel
    have HBE := Lib.hid hbe
    clear hbe
    by_cases hlt : k < n
    · have c01 : (0 : Int) ≤ (k : Int) := by omega
      have c02 : (k : Int) < (n : Int) := by omega
      obtain ⟨wO, hwO⟩ : ∃ q, q = wr := ⟨wr, rfl⟩
      subst hwO
      go_wp2
      go_loopw [4, 5] (fun s a wr => ∃ m : Nat, m ≤ k ∧ a = .int .i64 m ∧ s = .bool (evn k == evn m) ∧ wr = wO) (fun _ a _ => (intOf a).toNat)
      case atStart => exact ⟨k, Nat.le_refl _, rfl, by simp, by first | rfl | trivial⟩
      case round =>
        obtain ⟨m, hmk, rfl, rfl, rfl⟩ := hrel
        by_cases h0 : 0 < m
        · have d1 : (m : Int) > 0 := by omega
          have d2 : (((m : Int) - 1) / 2) = (((m - 1) / 2 : Nat) : Int) := by omega
          have d3 : Hid ((!(evn k == evn m)) = (evn k == evn ((m - 1) / 2))) := by
            show _ = _
            rw [evn_up h0]
            cases evn k <;> cases evn ((m - 1) / 2) <;> rfl
          go_wp2
          go_roundw
          case rel => exact ⟨(m - 1) / 2, by omega, by first | rfl | go_num | (congr 1; omega), by rw [← d3.out], by first | rfl | trivial⟩
          case measure => simp [intOf]; omega
        · obtain rfl : m = 0 := by omega
          have e0 : (evn k == evn 0) = evn k := by rw [evn_zero]; cases evn k <;> rfl
          rw [e0, show ((0 : Nat) : Int) = 0 from rfl]
          clear e0
          have B6 : Hid (Below w.heap.size w (wr.alloc (.cells #[.int .i64 (2 * (k : Int) + 1), .int .i64 (2 * (k : Int) + 2), .int .i64 (4 * (k : Int) + 3), .int .i64 (4 * (k : Int) + 4), .int .i64 (4 * (k : Int) + 5), .int .i64 (4 * (k : Int) + 6)] 3))) := HBE.out.alloc HBE.out.size _
          have S6 := Lib.hid (six_new wr k 3)
          have HX := Lib.hid (obox_of (i := k) (HL.out.next HBE.out) (by rw [EN.out]; exact hlt))
          obtain ⟨x, ex⟩ : ∃ x, nth l k = x := ⟨_, rfl⟩
          have HEX := Lib.hid ex
          clear ex
          go_wp2
          obtain ⟨g6, eg6⟩ : ∃ q, wr.heap.size = q := ⟨_, rfl⟩
          rw [eg6] at S6 ⊢
          clear eg6
          generalize (wr.alloc (.cells #[.int .i64 (2 * (k : Int) + 1), .int .i64 (2 * (k : Int) + 2), .int .i64 (4 * (k : Int) + 3), .int .i64 (4 * (k : Int) + 4), .int .i64 (4 * (k : Int) + 5), .int .i64 (4 * (k : Int) + 6)] 3)) = w6 at *
          clear HX
          go_loopw [41] (fun jv wr => ∃ j : Nat, j ≤ 6 ∧ jv = .int .i64 j ∧ SixAt g6 k wr ∧ Below w.heap.size w wr) (fun jv _ => 6 - (intOf jv).toNat)
          case atStart => exact ⟨0, by omega, rfl, S6.out, B6.out⟩
          case round =>
            obtain ⟨j, hj, rfl, hS, hbe⟩ := hrel
            clear S6 B6
            by_cases hj6 : j < 6
            · have q1 := hS.at_ j hj6
              obtain ⟨kk, ekk⟩ : ∃ kk, sx k j = kk := ⟨_, rfl⟩
              rw [ekk] at q1
              have HK := Lib.hid ekk
              have hkk : kk ≤ 4 * k + 6 := by rw [← ekk]; exact sx_le hj6
              have HB := Lib.hid hbe
              have HS6 := Lib.hid hS
              have c03 : (0 : Int) ≤ (j : Int) := by omega
              have c04 : (j : Int) < 6 := by omega
              have BX : Hid (OBox gl (k * 4) x wr) := by have q := obox_of (i := k) (HL.out.next hbe) (by rw [EN.out]; exact hlt); rw [HEX.out] at q; exact q
              clear hS hbe ekk
              by_cases hkn : kk < n
              · have BY : Hid (OBox gl (kk * 4) (nth l kk) wr) := obox_of (i := kk) (HL.out.next HB.out) (by rw [EN.out]; exact hkn)
                obtain ⟨y, ey⟩ : ∃ y, nth l kk = y := ⟨_, rfl⟩
                have hle : ble (evn k) x y := by
                  have q := HR.out k kk (by rw [← HK.out]; exact sx_bel hj6) (by rw [EN.out]; exact hkn)
                  rw [HEX.out, ey] at q
                  exact q
                rw [ey] at BY
                have c05 : (0 : Int) ≤ (kk : Int) := by omega
                have c06 : (kk : Int) < (n : Int) := by omega
                clear ey
                cases hev : evn k with
                | true =>
                  rw [hev] at hle
                  have LS := less_any y x
                  rw [(eltB_false _ _).2 hle] at LS
                  unfold entV at LS
                  clear hev hle
                  go_wp2
                  clear q1
                  obtain ⟨wN, hwN⟩ : ∃ q, q = wr := ⟨wr, rfl⟩
                  subst hwN
                  have ok : (planS gl n c k kk x y).ok = true := rfl
                  refine region_inv (Inv := fun l a wr => ∃ (e : Nat → Bool) (t : Nat → Value) (g : Nat → Nat), l = #[e 0, e 1, e 2, e 3, e 4, e 5, e 6, e 7, e 8, e 9, e 10, e 11, e 12, e 13, e 14, e 15, e 16, e 17, e 18, e 19, e 20, e 21, e 22, e 23, e 24, e 25, e 26, e 27, e 28, e 29, e 30, e 31, e 32] ∧ a = ⟨#[.slice (some ⟨gl, 0, none⟩) n c, undef, u2, .int .i64 (k : Int), .bool true, .int .i64 0, undef, .int .i64 (kk : Int), .slice (some ⟨gl, 0, none⟩) n c, .int .i64 (n : Int), .int .i64 (k : Int), .bool true, .int .i64 (k : Int), .int .i64 (k : Int), .int .i64 0, .bool false, u16, u17, u18, u19, u20, .int .i64 (k : Int), .int .i64 (2 * (k : Int)), .int .i64 (2 * (k : Int) + 1), .int .i64 (k : Int), .int .i64 (2 * (k : Int)), .int .i64 (2 * (k : Int) + 2), .int .i64 (k : Int), .int .i64 (4 * (k : Int)), .int .i64 (4 * (k : Int) + 3), .int .i64 (k : Int), .int .i64 (4 * (k : Int)), .int .i64 (4 * (k : Int) + 4), .int .i64 (k : Int), .int .i64 (4 * (k : Int)), .int .i64 (4 * (k : Int) + 5), .int .i64 (k : Int), .int .i64 (4 * (k : Int)), .int .i64 (4 * (k : Int) + 6), .slice (some ⟨g6, 0, none⟩) 6 6, .int .i64 6, .int .i64 (j : Int), .bool true, .pointer (some ⟨g6, j, none⟩), .int .i64 (kk : Int), t 45, t 46, t 47, t 48, t 49, t 50, t 51, t 52, t 53, t 54, t 55, t 56, t 57, t 58, t 59, t 60, t 61, t 62, t 63, t 64, t 65, t 66, t 67, t 68, t 69, t 70, t 71, t 72, t 73, t 74, t 75, t 76, t 77, u78, u79], []⟩ ∧ Stage (planS gl n c k kk x y) wN e t g wr) (by kernel_rfl) ?step ?start ?done
                  case start => exact ⟨fun _ => false, fun i => if i = 45 then u45 else if i = 46 then u46 else if i = 47 then u47 else if i = 48 then u48 else if i = 49 then u49 else if i = 50 then u50 else if i = 51 then u51 else if i = 52 then u52 else if i = 53 then u53 else if i = 54 then u54 else if i = 55 then u55 else if i = 56 then u56 else if i = 57 then u57 else if i = 58 then u58 else if i = 59 then u59 else if i = 60 then u60 else if i = 61 then u61 else if i = 62 then u62 else if i = 63 then u63 else if i = 64 then u64 else if i = 65 then u65 else if i = 66 then u66 else if i = 67 then u67 else if i = 68 then u68 else if i = 69 then u69 else if i = 70 then u70 else if i = 71 then u71 else if i = 72 then u72 else if i = 73 then u73 else if i = 74 then u74 else if i = 75 then u75 else if i = 76 then u76 else if i = 77 then u77 else undef, fun _ => 0, rfl, rfl, Stage.start _ _ _ _⟩
                  case step =>
                    rintro l a wr ⟨e, t, g, rfl, rfl, hs⟩ i o ho hi ha
                    match i, ho, hi, ha with
                    | 0, ho, hi, ha =>
                      obtain rfl : _ = o := Option.some.inj ho
                      refine wpOp_step (i := 0) rfl (fun K hK => ?_)
                      have HK : Shut (∀ a w, _ → K a w) := hK
                      clear hK ho
                      have HS := Lib.hid hs
                      clear hs ha hi
                      go_simp
                      exact HK.out _ _ ⟨upd e 0 true, upd t 45 _, g, rfl, rfl, by exact HS.out.vals ok (i := 0) rfl⟩
                    | 1, ho, hi, ha =>
                      obtain rfl : _ = o := Option.some.inj ho
                      refine wpOp_step (i := 1) rfl (fun K hK => ?_)
                      have HK : Shut (∀ a w, _ → K a w) := hK
                      clear hK ho
                      have HS := Lib.hid hs
                      clear hs ha hi
                      go_simp
                      exact HK.out _ _ ⟨upd e 1 true, upd t 46 _, g, rfl, rfl, by exact HS.out.vals ok (i := 1) rfl⟩
                    | 2, ho, hi, ha =>
                      obtain rfl : _ = o := Option.some.inj ho
                      have T1 : t 46 = .slice (some ⟨gl, 0, none⟩) n c := hs.val 1 rfl (ha { on := 1, ground := .data } (by simp) rfl)
                      have H1 := Lib.hid T1
                      refine wpOp_step (i := 2) rfl (fun K hK => ?_)
                      have HK : Shut (∀ a w, _ → K a w) := hK
                      clear hK ho
                      have HS := Lib.hid hs
                      clear hs ha hi
                      go_simp
                      exact HK.out _ _ ⟨upd e 2 true, upd (upd t 46 _) 47 _, g, rfl, rfl, by rw [upd_self H1.out]; exact HS.out.vals ok (i := 2) rfl⟩
                    | 3, ho, hi, ha =>
                      obtain rfl : _ = o := Option.some.inj ho
                      have T0 : t 45 = .int .i64 (kk : Int) := hs.val 0 rfl (ha { on := 0, ground := .data } (by simp) rfl)
                      have H0 := Lib.hid T0
                      have T2 : t 47 = .int .i64 (n : Int) := hs.val 2 rfl (ha { on := 2, ground := .data } (by simp) rfl)
                      have H2 := Lib.hid T2
                      refine wpOp_step (i := 3) rfl (fun K hK => ?_)
                      have HK : Shut (∀ a w, _ → K a w) := hK
                      clear hK ho
                      have HS := Lib.hid hs
                      clear hs ha hi
                      go_simp
                      exact HK.out _ _ ⟨upd e 3 true, upd (upd (upd t 45 _) 47 _) 48 _, g, rfl, rfl, by rw [upd_self H0.out, upd_self H2.out]; exact HS.out.vals ok (i := 3) rfl⟩
                    | 4, ho, hi, ha =>
                      obtain rfl : _ = o := Option.some.inj ho
                      have T3 : t 48 = .bool true := hs.val 3 rfl (ha { on := 3, ground := .data } (by simp) rfl)
                      have H3 := Lib.hid T3
                      refine wpOp_step (i := 4) rfl (fun K hK => ?_)
                      have HK : Shut (∀ a w, _ → K a w) := hK
                      clear hK ho
                      have HS := Lib.hid hs
                      clear hs ha hi
                      go_simp
                      exact HK.out _ _ ⟨upd e 4 true, upd (upd t 48 _) 49 _, g, rfl, rfl, by rw [upd_self H3.out]; exact HS.out.vals ok (i := 4) rfl⟩
                    | 5, ho, hi, ha =>
                      obtain rfl : _ = o := Option.some.inj ho
                      have T4 : t 49 = .bool true := hs.val 4 rfl (ha { on := 4, ground := .guard } (by simp) rfl)
                      have H4 := Lib.hid T4
                      refine wpOp_step (i := 5) rfl (fun K hK => ?_)
                      have HK : Shut (∀ a w, _ → K a w) := hK
                      clear hK ho
                      have HS := Lib.hid hs
                      clear hs ha hi
                      go_simp
                      exact HK.out _ _ ⟨upd e 5 true, upd (upd t 49 _) 50 _, g, rfl, rfl, by rw [upd_self H4.out]; exact HS.out.vals ok (i := 5) rfl⟩
                    | 6, ho, hi, ha =>
                      obtain rfl : _ = o := Option.some.inj ho
                      have T4 : t 49 = .bool true := hs.val 4 rfl (ha { on := 4, ground := .guard } (by simp) rfl)
                      have H4 := Lib.hid T4
                      have T5 : t 50 = .bool true := hs.val 5 rfl (ha { on := 5, ground := .data } (by simp) rfl)
                      have H5 := Lib.hid T5
                      refine wpOp_step (i := 6) rfl (fun K hK => ?_)
                      have HK : Shut (∀ a w, _ → K a w) := hK
                      clear hK ho
                      have HS := Lib.hid hs
                      clear hs ha hi
                      go_simp
                      exact HK.out _ _ ⟨upd e 6 true, upd (upd (upd t 49 _) 50 _) 51 _, g, rfl, rfl, by rw [upd_self H4.out, upd_self H5.out]; exact HS.out.vals ok (i := 6) rfl⟩
                    | 7, ho, hi, ha =>
                      obtain rfl : _ = o := Option.some.inj ho
                      have T6 : t 51 = .bool true := hs.val 6 rfl (ha { on := 6, ground := .guard } (by simp) rfl)
                      have H6 := Lib.hid T6
                      refine wpOp_step (i := 7) rfl (fun K hK => ?_)
                      have HK : Shut (∀ a w, _ → K a w) := hK
                      clear hK ho
                      have HS := Lib.hid hs
                      clear hs ha hi
                      go_simp
                      exact HK.out _ _ ⟨upd e 7 true, upd (upd t 51 _) 52 _, g, rfl, rfl, by rw [upd_self H6.out]; exact HS.out.vals ok (i := 7) rfl⟩
                    | 8, ho, hi, ha =>
                      obtain rfl : _ = o := Option.some.inj ho
                      have T6 : t 51 = .bool true := hs.val 6 rfl (ha { on := 6, ground := .guard } (by simp) rfl)
                      have H6 := Lib.hid T6
                      refine wpOp_step (i := 8) rfl (fun K hK => ?_)
                      have HK : Shut (∀ a w, _ → K a w) := hK
                      clear hK ho
                      have HS := Lib.hid hs
                      clear hs ha hi
                      go_simp
                      exact HK.out _ _ ⟨upd e 8 true, upd (upd t 51 _) 53 _, g, rfl, rfl, by rw [upd_self H6.out]; exact HS.out.vals ok (i := 8) rfl⟩
                    | 9, ho, hi, ha =>
                      obtain rfl : _ = o := Option.some.inj ho
                      have T6 : t 51 = .bool true := hs.val 6 rfl (ha { on := 6, ground := .guard } (by simp) rfl)
                      have H6 := Lib.hid T6
                      have T7 : t 52 = .slice (some ⟨gl, 0, none⟩) n c := hs.val 7 rfl (ha { on := 7, ground := .data } (by simp) rfl)
                      have H7 := Lib.hid T7
                      have T8 : t 53 = .int .i64 (kk : Int) := hs.val 8 rfl (ha { on := 8, ground := .data } (by simp) rfl)
                      have H8 := Lib.hid T8
                      refine wpOp_step (i := 9) rfl (fun K hK => ?_)
                      have HK : Shut (∀ a w, _ → K a w) := hK
                      clear hK ho
                      have HS := Lib.hid hs
                      clear hs ha hi
                      go_simp
                      exact HK.out _ _ ⟨upd e 9 true, upd (upd (upd (upd t 51 _) 52 _) 53 _) 54 _, g, rfl, rfl, by rw [upd_self H6.out, upd_self H7.out, upd_self H8.out]; exact HS.out.vals ok (i := 9) rfl⟩
                    | 10, ho, hi, ha =>
                      obtain rfl : _ = o := Option.some.inj ho
                      have T6 : t 51 = .bool true := hs.val 6 rfl (ha { on := 6, ground := .guard } (by simp) rfl)
                      have H6 := Lib.hid T6
                      have T9 : t 54 = .pointer (some ⟨gl, kk * 4, none⟩) := hs.val 9 rfl (ha { on := 9, ground := .data } (by simp) rfl)
                      have H9 := Lib.hid T9
                      refine wpOp_step (i := 10) rfl (fun K hK => ?_)
                      have HK : Shut (∀ a w, _ → K a w) := hK
                      clear hK ho
                      obtain ⟨c0, c1, c2, c3, cz⟩ := BY.out.next hs.be
                      have HS := Lib.hid hs
                      clear hs ha hi
                      go_simp
                      exact HK.out _ _ ⟨upd e 10 true, upd (upd (upd t 51 _) 54 _) 55 _, g, rfl, rfl, by rw [upd_self H6.out, upd_self H9.out]; exact HS.out.vals ok (i := 10) rfl⟩
                    | 11, ho, hi, ha =>
                      obtain rfl : _ = o := Option.some.inj ho
                      have T6 : t 51 = .bool true := hs.val 6 rfl (ha { on := 6, ground := .guard } (by simp) rfl)
                      have H6 := Lib.hid T6
                      refine wpOp_step (i := 11) rfl (fun K hK => ?_)
                      have HK : Shut (∀ a w, _ → K a w) := hK
                      clear hK ho
                      have HS := Lib.hid hs
                      clear hs ha hi
                      go_simp
                      exact HK.out _ _ ⟨upd e 11 true, upd (upd t 51 _) 56 _, g, rfl, rfl, by rw [upd_self H6.out]; exact HS.out.vals ok (i := 11) rfl⟩
                    | 12, ho, hi, ha =>
                      obtain rfl : _ = o := Option.some.inj ho
                      have T6 : t 51 = .bool true := hs.val 6 rfl (ha { on := 6, ground := .guard } (by simp) rfl)
                      have H6 := Lib.hid T6
                      refine wpOp_step (i := 12) rfl (fun K hK => ?_)
                      have HK : Shut (∀ a w, _ → K a w) := hK
                      clear hK ho
                      have HS := Lib.hid hs
                      clear hs ha hi
                      go_simp
                      exact HK.out _ _ ⟨upd e 12 true, upd (upd t 51 _) 57 _, g, rfl, rfl, by rw [upd_self H6.out]; exact HS.out.vals ok (i := 12) rfl⟩
                    | 13, ho, hi, ha =>
                      obtain rfl : _ = o := Option.some.inj ho
                      have T6 : t 51 = .bool true := hs.val 6 rfl (ha { on := 6, ground := .guard } (by simp) rfl)
                      have H6 := Lib.hid T6
                      have T11 : t 56 = .slice (some ⟨gl, 0, none⟩) n c := hs.val 11 rfl (ha { on := 11, ground := .data } (by simp) rfl)
                      have H11 := Lib.hid T11
                      have T12 : t 57 = .int .i64 (k : Int) := hs.val 12 rfl (ha { on := 12, ground := .data } (by simp) rfl)
                      have H12 := Lib.hid T12
                      refine wpOp_step (i := 13) rfl (fun K hK => ?_)
                      have HK : Shut (∀ a w, _ → K a w) := hK
                      clear hK ho
                      have HS := Lib.hid hs
                      clear hs ha hi
                      go_simp
                      exact HK.out _ _ ⟨upd e 13 true, upd (upd (upd (upd t 51 _) 56 _) 57 _) 58 _, g, rfl, rfl, by rw [upd_self H6.out, upd_self H11.out, upd_self H12.out]; exact HS.out.vals ok (i := 13) rfl⟩
                    | 14, ho, hi, ha =>
                      obtain rfl : _ = o := Option.some.inj ho
                      have T6 : t 51 = .bool true := hs.val 6 rfl (ha { on := 6, ground := .guard } (by simp) rfl)
                      have H6 := Lib.hid T6
                      have T13 : t 58 = .pointer (some ⟨gl, k * 4, none⟩) := hs.val 13 rfl (ha { on := 13, ground := .data } (by simp) rfl)
                      have H13 := Lib.hid T13
                      refine wpOp_step (i := 14) rfl (fun K hK => ?_)
                      have HK : Shut (∀ a w, _ → K a w) := hK
                      clear hK ho
                      obtain ⟨c0, c1, c2, c3, cz⟩ := BX.out.next hs.be
                      have HS := Lib.hid hs
                      clear hs ha hi
                      go_simp
                      exact HK.out _ _ ⟨upd e 14 true, upd (upd (upd t 51 _) 58 _) 59 _, g, rfl, rfl, by rw [upd_self H6.out, upd_self H13.out]; exact HS.out.vals ok (i := 14) rfl⟩
                    | 15, ho, hi, ha =>
                      obtain rfl : _ = o := Option.some.inj ho
                      have T6 : t 51 = .bool true := hs.val 6 rfl (ha { on := 6, ground := .guard } (by simp) rfl)
                      have H6 := Lib.hid T6
                      have T10 : t 55 = .agg #[.int .i64 y.b, .int .i64 y.d, .int .i64 y.s, .int .i64 y.i] := hs.val 10 rfl (ha { on := 10, ground := .data } (by simp) rfl)
                      have H10 := Lib.hid T10
                      have T14 : t 59 = .agg #[.int .i64 x.b, .int .i64 x.d, .int .i64 x.s, .int .i64 x.i] := hs.val 14 rfl (ha { on := 14, ground := .data } (by simp) rfl)
                      have H14 := Lib.hid T14
                      refine wpOp_step (i := 15) rfl (fun K hK => ?_)
                      have HK : Shut (∀ a w, _ → K a w) := hK
                      clear hK ho
                      have HS := Lib.hid hs
                      clear hs ha hi
                      go_simp
                      (with_reducible refine (LS _).mono ?_)
                      rintro e' w' ⟨rfl, m⟩
                      go_wp2_with fail
                      exact HK.out _ _ ⟨upd e 15 true, upd (upd (upd (upd t 51 _) 55 _) 59 _) 60 _, g, rfl, rfl, by rw [upd_self H6.out, upd_self H10.out, upd_self H14.out]; exact (HS.out.grow m.below).vals ok (i := 15) rfl⟩
                    | 16, ho, hi, ha =>
                      obtain rfl : _ = o := Option.some.inj ho
                      have T4 : t 49 = .bool true := hs.val 4 rfl (ha { on := 4, ground := .guard } (by simp) rfl)
                      have H4 := Lib.hid T4
                      have T6 : t 51 = .bool true := hs.val 6 rfl (ha { on := 6, ground := .data } (by simp) rfl)
                      have H6 := Lib.hid T6
                      have T15 : t 60 = .bool false := hs.val 15 rfl (ha { on := 15, ground := .data } (by simp) rfl)
                      have H15 := Lib.hid T15
                      refine wpOp_step (i := 16) rfl (fun K hK => ?_)
                      have HK : Shut (∀ a w, _ → K a w) := hK
                      clear hK ho
                      have HS := Lib.hid hs
                      clear hs ha hi
                      go_simp
                      exact HK.out _ _ ⟨upd e 16 true, upd (upd (upd (upd t 49 _) 51 _) 60 _) 61 _, g, rfl, rfl, by rw [upd_self H4.out, upd_self H6.out, upd_self H15.out]; exact HS.out.vals ok (i := 16) rfl⟩
                    | 17, ho, hi, ha =>
                      obtain rfl : _ = o := Option.some.inj ho
                      have T4 : t 49 = .bool true := hs.val 4 rfl (ha { on := 4, ground := .guard } (by simp) rfl)
                      have H4 := Lib.hid T4
                      have T16 : t 61 = .bool false := hs.val 16 rfl (ha { on := 16, ground := .data } (by simp) rfl)
                      have H16 := Lib.hid T16
                      refine wpOp_step (i := 17) rfl (fun K hK => ?_)
                      have HK : Shut (∀ a w, _ → K a w) := hK
                      clear hK ho
                      have HS := Lib.hid hs
                      clear hs ha hi
                      go_simp
                      exact HK.out _ _ ⟨upd e 17 true, upd (upd (upd t 49 _) 61 _) 62 _, g, rfl, rfl, by rw [upd_self H4.out, upd_self H16.out]; exact HS.out.vals ok (i := 17) rfl⟩
                    | 18, ho, hi, ha =>
                      obtain rfl : _ = o := Option.some.inj ho
                      have T17 : t 62 = .bool false := hs.val 17 rfl (ha { on := 17, ground := .guard } (by simp) rfl)
                      have H17 := Lib.hid T17
                      refine wpOp_step (i := 18) rfl (fun K hK => ?_)
                      have HK : Shut (∀ a w, _ → K a w) := hK
                      clear hK ho
                      have HS := Lib.hid hs
                      clear hs ha hi
                      go_simp
                      exact HK.out _ _ ⟨upd e 18 true, upd (upd t 62 _) 63 _, g, rfl, rfl, by rw [upd_self H17.out]; exact HS.out.vals ok (i := 18) rfl⟩
                    | 19, ho, hi, ha =>
                      obtain rfl : _ = o := Option.some.inj ho
                      have T17 : t 62 = .bool false := hs.val 17 rfl (ha { on := 17, ground := .guard } (by simp) rfl)
                      have H17 := Lib.hid T17
                      have T18 : t 63 = .bool true := hs.val 18 rfl (ha { on := 18, ground := .data } (by simp) rfl)
                      have H18 := Lib.hid T18
                      refine wpOp_step (i := 19) rfl (fun K hK => ?_)
                      have HK : Shut (∀ a w, _ → K a w) := hK
                      clear hK ho
                      have HS := Lib.hid hs
                      clear hs ha hi
                      go_simp
                      exact HK.out _ _ ⟨upd e 19 true, upd (upd (upd t 62 _) 63 _) 64 _, g, rfl, rfl, by rw [upd_self H17.out, upd_self H18.out]; exact HS.out.vals ok (i := 19) rfl⟩
                    | 20, ho, hi, ha =>
                      obtain rfl : _ = o := Option.some.inj ho
                      have T17 : t 62 = .bool false := hs.val 17 rfl (ha { on := 17, ground := .guard } (by simp) rfl)
                      have H17 := Lib.hid T17
                      have T19 : t 64 = .bool false := hs.val 19 rfl (ha { on := 19, ground := .data } (by simp) rfl)
                      have H19 := Lib.hid T19
                      refine wpOp_step (i := 20) rfl (fun K hK => ?_)
                      have HK : Shut (∀ a w, _ → K a w) := hK
                      clear hK ho
                      have HS := Lib.hid hs
                      clear hs ha hi
                      go_simp
                      exact HK.out _ _ ⟨upd e 20 true, upd (upd (upd t 62 _) 64 _) 65 _, g, rfl, rfl, by rw [upd_self H17.out, upd_self H19.out]; exact HS.out.vals ok (i := 20) rfl⟩
                    | 21, ho, hi, ha =>
                      obtain rfl : _ = o := Option.some.inj ho
                      have T20 : t 65 = .bool false := hs.val 20 rfl (ha { on := 20, ground := .guard } (by simp) rfl)
                      have H20 := Lib.hid T20
                      refine wpOp_step (i := 21) rfl (fun K hK => ?_)
                      have HK : Shut (∀ a w, _ → K a w) := hK
                      clear hK ho
                      have HS := Lib.hid hs
                      clear hs ha hi
                      go_simp
                      exact HK.out _ _ ⟨upd e 21 true, upd (upd t 65 _) 66 _, g, rfl, rfl, by rw [upd_self H20.out]; exact HS.out.vals ok (i := 21) rfl⟩
                    | 22, ho, hi, ha =>
                      obtain rfl : _ = o := Option.some.inj ho
                      have T20 : t 65 = .bool false := hs.val 20 rfl (ha { on := 20, ground := .guard } (by simp) rfl)
                      have H20 := Lib.hid T20
                      refine wpOp_step (i := 22) rfl (fun K hK => ?_)
                      have HK : Shut (∀ a w, _ → K a w) := hK
                      clear hK ho
                      have HS := Lib.hid hs
                      clear hs ha hi
                      go_simp
                      exact HK.out _ _ ⟨upd e 22 true, upd (upd t 65 _) 67 _, g, rfl, rfl, by rw [upd_self H20.out]; exact HS.out.vals ok (i := 22) rfl⟩
                    | 23, ho, hi, ha =>
                      obtain rfl : _ = o := Option.some.inj ho
                      have T20 : t 65 = .bool false := hs.val 20 rfl (ha { on := 20, ground := .guard } (by simp) rfl)
                      have H20 := Lib.hid T20
                      refine wpOp_step (i := 23) rfl (fun K hK => ?_)
                      have HK : Shut (∀ a w, _ → K a w) := hK
                      clear hK ho
                      have HS := Lib.hid hs
                      clear hs ha hi
                      go_simp
                      exact HK.out _ _ ⟨upd e 23 true, upd (upd t 65 _) 68 _, g, rfl, rfl, by rw [upd_self H20.out]; exact HS.out.vals ok (i := 23) rfl⟩
                    | 24, ho, hi, ha =>
                      obtain rfl : _ = o := Option.some.inj ho
                      have T20 : t 65 = .bool false := hs.val 20 rfl (ha { on := 20, ground := .guard } (by simp) rfl)
                      have H20 := Lib.hid T20
                      refine wpOp_step (i := 24) rfl (fun K hK => ?_)
                      have HK : Shut (∀ a w, _ → K a w) := hK
                      clear hK ho
                      have HS := Lib.hid hs
                      clear hs ha hi
                      go_simp
                      exact HK.out _ _ ⟨upd e 24 true, upd (upd t 65 _) 69 _, g, rfl, rfl, by rw [upd_self H20.out]; exact HS.out.vals ok (i := 24) rfl⟩
                    | 25, ho, hi, ha =>
                      obtain rfl : _ = o := Option.some.inj ho
                      have T20 : t 65 = .bool false := hs.val 20 rfl (ha { on := 20, ground := .guard } (by simp) rfl)
                      have H20 := Lib.hid T20
                      refine wpOp_step (i := 25) rfl (fun K hK => ?_)
                      have HK : Shut (∀ a w, _ → K a w) := hK
                      clear hK ho
                      have HS := Lib.hid hs
                      clear hs ha hi
                      go_simp
                      exact HK.out _ _ ⟨upd e 25 true, upd (upd t 65 _) 70 _, g, rfl, rfl, by rw [upd_self H20.out]; exact HS.out.vals ok (i := 25) rfl⟩
                    | 26, ho, hi, ha =>
                      obtain rfl : _ = o := Option.some.inj ho
                      have T20 : t 65 = .bool false := hs.val 20 rfl (ha { on := 20, ground := .guard } (by simp) rfl)
                      have H20 := Lib.hid T20
                      refine wpOp_step (i := 26) rfl (fun K hK => ?_)
                      have HK : Shut (∀ a w, _ → K a w) := hK
                      clear hK ho
                      have HS := Lib.hid hs
                      clear hs ha hi
                      go_simp
                      exact HK.out _ _ ⟨upd e 26 true, upd (upd t 65 _) 71 _, g, rfl, rfl, by rw [upd_self H20.out]; exact HS.out.vals ok (i := 26) rfl⟩
                    | 27, ho, hi, ha =>
                      obtain rfl : _ = o := Option.some.inj ho
                      have T20 : t 65 = .bool false := hs.val 20 rfl (ha { on := 20, ground := .guard } (by simp) rfl)
                      have H20 := Lib.hid T20
                      refine wpOp_step (i := 27) rfl (fun K hK => ?_)
                      have HK : Shut (∀ a w, _ → K a w) := hK
                      clear hK ho
                      have HS := Lib.hid hs
                      clear hs ha hi
                      go_simp
                      exact HK.out _ _ ⟨upd e 27 true, upd (upd t 65 _) 72 _, g, rfl, rfl, by rw [upd_self H20.out]; exact HS.out.vals ok (i := 27) rfl⟩
                    | 28, ho, hi, ha =>
                      obtain rfl : _ = o := Option.some.inj ho
                      have T20 : t 65 = .bool false := hs.val 20 rfl (ha { on := 20, ground := .guard } (by simp) rfl)
                      have H20 := Lib.hid T20
                      refine wpOp_step (i := 28) rfl (fun K hK => ?_)
                      have HK : Shut (∀ a w, _ → K a w) := hK
                      clear hK ho
                      have HS := Lib.hid hs
                      clear hs ha hi
                      go_simp
                      exact HK.out _ _ ⟨upd e 28 true, upd (upd t 65 _) 73 _, g, rfl, rfl, by rw [upd_self H20.out]; exact HS.out.vals ok (i := 28) rfl⟩
                    | 29, ho, hi, ha =>
                      obtain rfl : _ = o := Option.some.inj ho
                      have T20 : t 65 = .bool false := hs.val 20 rfl (ha { on := 20, ground := .guard } (by simp) rfl)
                      have H20 := Lib.hid T20
                      refine wpOp_step (i := 29) rfl (fun K hK => ?_)
                      have HK : Shut (∀ a w, _ → K a w) := hK
                      clear hK ho
                      have HS := Lib.hid hs
                      clear hs ha hi
                      go_simp
                      exact HK.out _ _ ⟨upd e 29 true, upd (upd t 65 _) 74 _, g, rfl, rfl, by rw [upd_self H20.out]; exact HS.out.vals ok (i := 29) rfl⟩
                    | 30, ho, hi, ha =>
                      obtain rfl : _ = o := Option.some.inj ho
                      have T17 : t 62 = .bool false := hs.val 17 rfl (ha { on := 17, ground := .guard } (by simp) rfl)
                      have H17 := Lib.hid T17
                      have T20 : t 65 = .bool false := hs.val 20 rfl (ha { on := 20, ground := .data } (by simp) rfl)
                      have H20 := Lib.hid T20
                      refine wpOp_step (i := 30) rfl (fun K hK => ?_)
                      have HK : Shut (∀ a w, _ → K a w) := hK
                      clear hK ho
                      have HS := Lib.hid hs
                      clear hs ha hi
                      go_simp
                      exact HK.out _ _ ⟨upd e 30 true, upd (upd (upd t 62 _) 65 _) 75 _, g, rfl, rfl, by rw [upd_self H17.out, upd_self H20.out]; exact HS.out.vals ok (i := 30) rfl⟩
                    | 31, ho, hi, ha =>
                      obtain rfl : _ = o := Option.some.inj ho
                      have T4 : t 49 = .bool true := hs.val 4 rfl (ha { on := 4, ground := .guard } (by simp) rfl)
                      have H4 := Lib.hid T4
                      have T17 : t 62 = .bool false := hs.val 17 rfl (ha { on := 17, ground := .data } (by simp) rfl)
                      have H17 := Lib.hid T17
                      have T30 : t 75 = .bool false := hs.val 30 rfl (ha { on := 30, ground := .data } (by simp) rfl)
                      have H30 := Lib.hid T30
                      refine wpOp_step (i := 31) rfl (fun K hK => ?_)
                      have HK : Shut (∀ a w, _ → K a w) := hK
                      clear hK ho
                      have HS := Lib.hid hs
                      clear hs ha hi
                      go_simp
                      exact HK.out _ _ ⟨upd e 31 true, upd (upd (upd (upd t 49 _) 62 _) 75 _) 76 _, g, rfl, rfl, by rw [upd_self H4.out, upd_self H17.out, upd_self H30.out]; exact HS.out.vals ok (i := 31) rfl⟩
                    | 32, ho, hi, ha =>
                      obtain rfl : _ = o := Option.some.inj ho
                      have T4 : t 49 = .bool true := hs.val 4 rfl (ha { on := 4, ground := .data } (by simp) rfl)
                      have H4 := Lib.hid T4
                      have T31 : t 76 = .bool false := hs.val 31 rfl (ha { on := 31, ground := .data } (by simp) rfl)
                      have H31 := Lib.hid T31
                      refine wpOp_step (i := 32) rfl (fun K hK => ?_)
                      have HK : Shut (∀ a w, _ → K a w) := hK
                      clear hK ho
                      have HS := Lib.hid hs
                      clear hs ha hi
                      go_simp
                      exact HK.out _ _ ⟨upd e 32 true, upd (upd (upd t 49 _) 76 _) 77 _, g, rfl, rfl, by rw [upd_self H4.out, upd_self H31.out]; exact HS.out.vals ok (i := 32) rfl⟩
                    | k + 33, ho, hi, ha => simp at ho
                  case done =>
                    rintro l a wr ⟨e, t, g, rfl, rfl, hs⟩ hr
                    have hd := ready_done hr rfl (by decide +kernel)
                    have e32 : e 32 = true := hd 32 (by decide)
                    have v77 : t 77 = .bool false := hs.val 32 rfl e32
                    have BE := Lib.hid (HB.out.trans (hs.be.mono HB.out.size))
                    have S6 := Lib.hid (HS6.out.next hs.be)
                    rw [v77]
                    generalize t 45 = u45, t 46 = u46, t 47 = u47, t 48 = u48, t 49 = u49, t 50 = u50, t 51 = u51, t 52 = u52, t 53 = u53, t 54 = u54, t 55 = u55, t 56 = u56, t 57 = u57, t 58 = u58, t 59 = u59, t 60 = u60, t 61 = u61, t 62 = u62, t 63 = u63, t 64 = u64, t 65 = u65, t 66 = u66, t 67 = u67, t 68 = u68, t 69 = u69, t 70 = u70, t 71 = u71, t 72 = u72, t 73 = u73, t 74 = u74, t 75 = u75, t 76 = u76
                    clear hs hd hr e32 v77 HB HS6
                    go_wp2
                    go_roundw
                    case rel => exact ⟨j + 1, by omega, by go_num, S6.out, BE.out⟩
                    case measure => simp [intOf]; omega
                | false =>
                  rw [hev] at hle
                  have LS := less_any x y
                  rw [(eltB_false _ _).2 hle] at LS
                  unfold entV at LS
                  clear hev hle
                  go_wp2
                  clear q1
                  obtain ⟨wN, hwN⟩ : ∃ q, q = wr := ⟨wr, rfl⟩
                  subst hwN
                  have ok : (planB gl n c k kk x y).ok = true := rfl
                  refine region_inv (Inv := fun l a wr => ∃ (e : Nat → Bool) (t : Nat → Value) (g : Nat → Nat), l = #[e 0, e 1, e 2, e 3, e 4, e 5, e 6, e 7, e 8, e 9, e 10, e 11, e 12, e 13, e 14, e 15, e 16, e 17, e 18, e 19, e 20, e 21, e 22, e 23, e 24, e 25, e 26, e 27, e 28, e 29, e 30, e 31, e 32] ∧ a = ⟨#[.slice (some ⟨gl, 0, none⟩) n c, undef, u2, .int .i64 (k : Int), .bool false, .int .i64 0, undef, .int .i64 (kk : Int), .slice (some ⟨gl, 0, none⟩) n c, .int .i64 (n : Int), .int .i64 (k : Int), .bool true, .int .i64 (k : Int), .int .i64 (k : Int), .int .i64 0, .bool false, u16, u17, u18, u19, u20, .int .i64 (k : Int), .int .i64 (2 * (k : Int)), .int .i64 (2 * (k : Int) + 1), .int .i64 (k : Int), .int .i64 (2 * (k : Int)), .int .i64 (2 * (k : Int) + 2), .int .i64 (k : Int), .int .i64 (4 * (k : Int)), .int .i64 (4 * (k : Int) + 3), .int .i64 (k : Int), .int .i64 (4 * (k : Int)), .int .i64 (4 * (k : Int) + 4), .int .i64 (k : Int), .int .i64 (4 * (k : Int)), .int .i64 (4 * (k : Int) + 5), .int .i64 (k : Int), .int .i64 (4 * (k : Int)), .int .i64 (4 * (k : Int) + 6), .slice (some ⟨g6, 0, none⟩) 6 6, .int .i64 6, .int .i64 (j : Int), .bool true, .pointer (some ⟨g6, j, none⟩), .int .i64 (kk : Int), t 45, t 46, t 47, t 48, t 49, t 50, t 51, t 52, t 53, t 54, t 55, t 56, t 57, t 58, t 59, t 60, t 61, t 62, t 63, t 64, t 65, t 66, t 67, t 68, t 69, t 70, t 71, t 72, t 73, t 74, t 75, t 76, t 77, u78, u79], []⟩ ∧ Stage (planB gl n c k kk x y) wN e t g wr) (by kernel_rfl) ?step ?start ?done
                  case start => exact ⟨fun _ => false, fun i => if i = 45 then u45 else if i = 46 then u46 else if i = 47 then u47 else if i = 48 then u48 else if i = 49 then u49 else if i = 50 then u50 else if i = 51 then u51 else if i = 52 then u52 else if i = 53 then u53 else if i = 54 then u54 else if i = 55 then u55 else if i = 56 then u56 else if i = 57 then u57 else if i = 58 then u58 else if i = 59 then u59 else if i = 60 then u60 else if i = 61 then u61 else if i = 62 then u62 else if i = 63 then u63 else if i = 64 then u64 else if i = 65 then u65 else if i = 66 then u66 else if i = 67 then u67 else if i = 68 then u68 else if i = 69 then u69 else if i = 70 then u70 else if i = 71 then u71 else if i = 72 then u72 else if i = 73 then u73 else if i = 74 then u74 else if i = 75 then u75 else if i = 76 then u76 else if i = 77 then u77 else undef, fun _ => 0, rfl, rfl, Stage.start _ _ _ _⟩
                  case step =>
                    rintro l a wr ⟨e, t, g, rfl, rfl, hs⟩ i o ho hi ha
                    match i, ho, hi, ha with
                    | 0, ho, hi, ha =>
                      obtain rfl : _ = o := Option.some.inj ho
                      refine wpOp_step (i := 0) rfl (fun K hK => ?_)
                      have HK : Shut (∀ a w, _ → K a w) := hK
                      clear hK ho
                      have HS := Lib.hid hs
                      clear hs ha hi
                      go_simp
                      exact HK.out _ _ ⟨upd e 0 true, upd t 45 _, g, rfl, rfl, by exact HS.out.vals ok (i := 0) rfl⟩
                    | 1, ho, hi, ha =>
                      obtain rfl : _ = o := Option.some.inj ho
                      refine wpOp_step (i := 1) rfl (fun K hK => ?_)
                      have HK : Shut (∀ a w, _ → K a w) := hK
                      clear hK ho
                      have HS := Lib.hid hs
                      clear hs ha hi
                      go_simp
                      exact HK.out _ _ ⟨upd e 1 true, upd t 46 _, g, rfl, rfl, by exact HS.out.vals ok (i := 1) rfl⟩
                    | 2, ho, hi, ha =>
                      obtain rfl : _ = o := Option.some.inj ho
                      have T1 : t 46 = .slice (some ⟨gl, 0, none⟩) n c := hs.val 1 rfl (ha { on := 1, ground := .data } (by simp) rfl)
                      have H1 := Lib.hid T1
                      refine wpOp_step (i := 2) rfl (fun K hK => ?_)
                      have HK : Shut (∀ a w, _ → K a w) := hK
                      clear hK ho
                      have HS := Lib.hid hs
                      clear hs ha hi
                      go_simp
                      exact HK.out _ _ ⟨upd e 2 true, upd (upd t 46 _) 47 _, g, rfl, rfl, by rw [upd_self H1.out]; exact HS.out.vals ok (i := 2) rfl⟩
                    | 3, ho, hi, ha =>
                      obtain rfl : _ = o := Option.some.inj ho
                      have T0 : t 45 = .int .i64 (kk : Int) := hs.val 0 rfl (ha { on := 0, ground := .data } (by simp) rfl)
                      have H0 := Lib.hid T0
                      have T2 : t 47 = .int .i64 (n : Int) := hs.val 2 rfl (ha { on := 2, ground := .data } (by simp) rfl)
                      have H2 := Lib.hid T2
                      refine wpOp_step (i := 3) rfl (fun K hK => ?_)
                      have HK : Shut (∀ a w, _ → K a w) := hK
                      clear hK ho
                      have HS := Lib.hid hs
                      clear hs ha hi
                      go_simp
                      exact HK.out _ _ ⟨upd e 3 true, upd (upd (upd t 45 _) 47 _) 48 _, g, rfl, rfl, by rw [upd_self H0.out, upd_self H2.out]; exact HS.out.vals ok (i := 3) rfl⟩
                    | 4, ho, hi, ha =>
                      obtain rfl : _ = o := Option.some.inj ho
                      have T3 : t 48 = .bool true := hs.val 3 rfl (ha { on := 3, ground := .data } (by simp) rfl)
                      have H3 := Lib.hid T3
                      refine wpOp_step (i := 4) rfl (fun K hK => ?_)
                      have HK : Shut (∀ a w, _ → K a w) := hK
                      clear hK ho
                      have HS := Lib.hid hs
                      clear hs ha hi
                      go_simp
                      exact HK.out _ _ ⟨upd e 4 true, upd (upd t 48 _) 49 _, g, rfl, rfl, by rw [upd_self H3.out]; exact HS.out.vals ok (i := 4) rfl⟩
                    | 5, ho, hi, ha =>
                      obtain rfl : _ = o := Option.some.inj ho
                      have T4 : t 49 = .bool true := hs.val 4 rfl (ha { on := 4, ground := .guard } (by simp) rfl)
                      have H4 := Lib.hid T4
                      refine wpOp_step (i := 5) rfl (fun K hK => ?_)
                      have HK : Shut (∀ a w, _ → K a w) := hK
                      clear hK ho
                      have HS := Lib.hid hs
                      clear hs ha hi
                      go_simp
                      exact HK.out _ _ ⟨upd e 5 true, upd (upd t 49 _) 50 _, g, rfl, rfl, by rw [upd_self H4.out]; exact HS.out.vals ok (i := 5) rfl⟩
                    | 6, ho, hi, ha =>
                      obtain rfl : _ = o := Option.some.inj ho
                      have T4 : t 49 = .bool true := hs.val 4 rfl (ha { on := 4, ground := .guard } (by simp) rfl)
                      have H4 := Lib.hid T4
                      have T5 : t 50 = .bool false := hs.val 5 rfl (ha { on := 5, ground := .data } (by simp) rfl)
                      have H5 := Lib.hid T5
                      refine wpOp_step (i := 6) rfl (fun K hK => ?_)
                      have HK : Shut (∀ a w, _ → K a w) := hK
                      clear hK ho
                      have HS := Lib.hid hs
                      clear hs ha hi
                      go_simp
                      exact HK.out _ _ ⟨upd e 6 true, upd (upd (upd t 49 _) 50 _) 51 _, g, rfl, rfl, by rw [upd_self H4.out, upd_self H5.out]; exact HS.out.vals ok (i := 6) rfl⟩
                    | 7, ho, hi, ha =>
                      obtain rfl : _ = o := Option.some.inj ho
                      have T6 : t 51 = .bool false := hs.val 6 rfl (ha { on := 6, ground := .guard } (by simp) rfl)
                      have H6 := Lib.hid T6
                      refine wpOp_step (i := 7) rfl (fun K hK => ?_)
                      have HK : Shut (∀ a w, _ → K a w) := hK
                      clear hK ho
                      have HS := Lib.hid hs
                      clear hs ha hi
                      go_simp
                      exact HK.out _ _ ⟨upd e 7 true, upd (upd t 51 _) 52 _, g, rfl, rfl, by rw [upd_self H6.out]; exact HS.out.vals ok (i := 7) rfl⟩
                    | 8, ho, hi, ha =>
                      obtain rfl : _ = o := Option.some.inj ho
                      have T6 : t 51 = .bool false := hs.val 6 rfl (ha { on := 6, ground := .guard } (by simp) rfl)
                      have H6 := Lib.hid T6
                      refine wpOp_step (i := 8) rfl (fun K hK => ?_)
                      have HK : Shut (∀ a w, _ → K a w) := hK
                      clear hK ho
                      have HS := Lib.hid hs
                      clear hs ha hi
                      go_simp
                      exact HK.out _ _ ⟨upd e 8 true, upd (upd t 51 _) 53 _, g, rfl, rfl, by rw [upd_self H6.out]; exact HS.out.vals ok (i := 8) rfl⟩
                    | 9, ho, hi, ha =>
                      obtain rfl : _ = o := Option.some.inj ho
                      have T6 : t 51 = .bool false := hs.val 6 rfl (ha { on := 6, ground := .guard } (by simp) rfl)
                      have H6 := Lib.hid T6
                      refine wpOp_step (i := 9) rfl (fun K hK => ?_)
                      have HK : Shut (∀ a w, _ → K a w) := hK
                      clear hK ho
                      have HS := Lib.hid hs
                      clear hs ha hi
                      go_simp
                      exact HK.out _ _ ⟨upd e 9 true, upd (upd t 51 _) 54 _, g, rfl, rfl, by rw [upd_self H6.out]; exact HS.out.vals ok (i := 9) rfl⟩
                    | 10, ho, hi, ha =>
                      obtain rfl : _ = o := Option.some.inj ho
                      have T6 : t 51 = .bool false := hs.val 6 rfl (ha { on := 6, ground := .guard } (by simp) rfl)
                      have H6 := Lib.hid T6
                      refine wpOp_step (i := 10) rfl (fun K hK => ?_)
                      have HK : Shut (∀ a w, _ → K a w) := hK
                      clear hK ho
                      have HS := Lib.hid hs
                      clear hs ha hi
                      go_simp
                      exact HK.out _ _ ⟨upd e 10 true, upd (upd t 51 _) 55 _, g, rfl, rfl, by rw [upd_self H6.out]; exact HS.out.vals ok (i := 10) rfl⟩
                    | 11, ho, hi, ha =>
                      obtain rfl : _ = o := Option.some.inj ho
                      have T6 : t 51 = .bool false := hs.val 6 rfl (ha { on := 6, ground := .guard } (by simp) rfl)
                      have H6 := Lib.hid T6
                      refine wpOp_step (i := 11) rfl (fun K hK => ?_)
                      have HK : Shut (∀ a w, _ → K a w) := hK
                      clear hK ho
                      have HS := Lib.hid hs
                      clear hs ha hi
                      go_simp
                      exact HK.out _ _ ⟨upd e 11 true, upd (upd t 51 _) 56 _, g, rfl, rfl, by rw [upd_self H6.out]; exact HS.out.vals ok (i := 11) rfl⟩
                    | 12, ho, hi, ha =>
                      obtain rfl : _ = o := Option.some.inj ho
                      have T6 : t 51 = .bool false := hs.val 6 rfl (ha { on := 6, ground := .guard } (by simp) rfl)
                      have H6 := Lib.hid T6
                      refine wpOp_step (i := 12) rfl (fun K hK => ?_)
                      have HK : Shut (∀ a w, _ → K a w) := hK
                      clear hK ho
                      have HS := Lib.hid hs
                      clear hs ha hi
                      go_simp
                      exact HK.out _ _ ⟨upd e 12 true, upd (upd t 51 _) 57 _, g, rfl, rfl, by rw [upd_self H6.out]; exact HS.out.vals ok (i := 12) rfl⟩
                    | 13, ho, hi, ha =>
                      obtain rfl : _ = o := Option.some.inj ho
                      have T6 : t 51 = .bool false := hs.val 6 rfl (ha { on := 6, ground := .guard } (by simp) rfl)
                      have H6 := Lib.hid T6
                      refine wpOp_step (i := 13) rfl (fun K hK => ?_)
                      have HK : Shut (∀ a w, _ → K a w) := hK
                      clear hK ho
                      have HS := Lib.hid hs
                      clear hs ha hi
                      go_simp
                      exact HK.out _ _ ⟨upd e 13 true, upd (upd t 51 _) 58 _, g, rfl, rfl, by rw [upd_self H6.out]; exact HS.out.vals ok (i := 13) rfl⟩
                    | 14, ho, hi, ha =>
                      obtain rfl : _ = o := Option.some.inj ho
                      have T6 : t 51 = .bool false := hs.val 6 rfl (ha { on := 6, ground := .guard } (by simp) rfl)
                      have H6 := Lib.hid T6
                      refine wpOp_step (i := 14) rfl (fun K hK => ?_)
                      have HK : Shut (∀ a w, _ → K a w) := hK
                      clear hK ho
                      have HS := Lib.hid hs
                      clear hs ha hi
                      go_simp
                      exact HK.out _ _ ⟨upd e 14 true, upd (upd t 51 _) 59 _, g, rfl, rfl, by rw [upd_self H6.out]; exact HS.out.vals ok (i := 14) rfl⟩
                    | 15, ho, hi, ha =>
                      obtain rfl : _ = o := Option.some.inj ho
                      have T6 : t 51 = .bool false := hs.val 6 rfl (ha { on := 6, ground := .guard } (by simp) rfl)
                      have H6 := Lib.hid T6
                      refine wpOp_step (i := 15) rfl (fun K hK => ?_)
                      have HK : Shut (∀ a w, _ → K a w) := hK
                      clear hK ho
                      have HS := Lib.hid hs
                      clear hs ha hi
                      go_simp
                      exact HK.out _ _ ⟨upd e 15 true, upd (upd t 51 _) 60 _, g, rfl, rfl, by rw [upd_self H6.out]; exact HS.out.vals ok (i := 15) rfl⟩
                    | 16, ho, hi, ha =>
                      obtain rfl : _ = o := Option.some.inj ho
                      have T4 : t 49 = .bool true := hs.val 4 rfl (ha { on := 4, ground := .guard } (by simp) rfl)
                      have H4 := Lib.hid T4
                      have T6 : t 51 = .bool false := hs.val 6 rfl (ha { on := 6, ground := .data } (by simp) rfl)
                      have H6 := Lib.hid T6
                      refine wpOp_step (i := 16) rfl (fun K hK => ?_)
                      have HK : Shut (∀ a w, _ → K a w) := hK
                      clear hK ho
                      have HS := Lib.hid hs
                      clear hs ha hi
                      go_simp
                      exact HK.out _ _ ⟨upd e 16 true, upd (upd (upd t 49 _) 51 _) 61 _, g, rfl, rfl, by rw [upd_self H4.out, upd_self H6.out]; exact HS.out.vals ok (i := 16) rfl⟩
                    | 17, ho, hi, ha =>
                      obtain rfl : _ = o := Option.some.inj ho
                      have T4 : t 49 = .bool true := hs.val 4 rfl (ha { on := 4, ground := .guard } (by simp) rfl)
                      have H4 := Lib.hid T4
                      have T16 : t 61 = .bool false := hs.val 16 rfl (ha { on := 16, ground := .data } (by simp) rfl)
                      have H16 := Lib.hid T16
                      refine wpOp_step (i := 17) rfl (fun K hK => ?_)
                      have HK : Shut (∀ a w, _ → K a w) := hK
                      clear hK ho
                      have HS := Lib.hid hs
                      clear hs ha hi
                      go_simp
                      exact HK.out _ _ ⟨upd e 17 true, upd (upd (upd t 49 _) 61 _) 62 _, g, rfl, rfl, by rw [upd_self H4.out, upd_self H16.out]; exact HS.out.vals ok (i := 17) rfl⟩
                    | 18, ho, hi, ha =>
                      obtain rfl : _ = o := Option.some.inj ho
                      have T17 : t 62 = .bool false := hs.val 17 rfl (ha { on := 17, ground := .guard } (by simp) rfl)
                      have H17 := Lib.hid T17
                      refine wpOp_step (i := 18) rfl (fun K hK => ?_)
                      have HK : Shut (∀ a w, _ → K a w) := hK
                      clear hK ho
                      have HS := Lib.hid hs
                      clear hs ha hi
                      go_simp
                      exact HK.out _ _ ⟨upd e 18 true, upd (upd t 62 _) 63 _, g, rfl, rfl, by rw [upd_self H17.out]; exact HS.out.vals ok (i := 18) rfl⟩
                    | 19, ho, hi, ha =>
                      obtain rfl : _ = o := Option.some.inj ho
                      have T17 : t 62 = .bool false := hs.val 17 rfl (ha { on := 17, ground := .guard } (by simp) rfl)
                      have H17 := Lib.hid T17
                      have T18 : t 63 = .bool false := hs.val 18 rfl (ha { on := 18, ground := .data } (by simp) rfl)
                      have H18 := Lib.hid T18
                      refine wpOp_step (i := 19) rfl (fun K hK => ?_)
                      have HK : Shut (∀ a w, _ → K a w) := hK
                      clear hK ho
                      have HS := Lib.hid hs
                      clear hs ha hi
                      go_simp
                      exact HK.out _ _ ⟨upd e 19 true, upd (upd (upd t 62 _) 63 _) 64 _, g, rfl, rfl, by rw [upd_self H17.out, upd_self H18.out]; exact HS.out.vals ok (i := 19) rfl⟩
                    | 20, ho, hi, ha =>
                      obtain rfl : _ = o := Option.some.inj ho
                      have T17 : t 62 = .bool false := hs.val 17 rfl (ha { on := 17, ground := .guard } (by simp) rfl)
                      have H17 := Lib.hid T17
                      have T19 : t 64 = .bool true := hs.val 19 rfl (ha { on := 19, ground := .data } (by simp) rfl)
                      have H19 := Lib.hid T19
                      refine wpOp_step (i := 20) rfl (fun K hK => ?_)
                      have HK : Shut (∀ a w, _ → K a w) := hK
                      clear hK ho
                      have HS := Lib.hid hs
                      clear hs ha hi
                      go_simp
                      exact HK.out _ _ ⟨upd e 20 true, upd (upd (upd t 62 _) 64 _) 65 _, g, rfl, rfl, by rw [upd_self H17.out, upd_self H19.out]; exact HS.out.vals ok (i := 20) rfl⟩
                    | 21, ho, hi, ha =>
                      obtain rfl : _ = o := Option.some.inj ho
                      have T20 : t 65 = .bool true := hs.val 20 rfl (ha { on := 20, ground := .guard } (by simp) rfl)
                      have H20 := Lib.hid T20
                      refine wpOp_step (i := 21) rfl (fun K hK => ?_)
                      have HK : Shut (∀ a w, _ → K a w) := hK
                      clear hK ho
                      have HS := Lib.hid hs
                      clear hs ha hi
                      go_simp
                      exact HK.out _ _ ⟨upd e 21 true, upd (upd t 65 _) 66 _, g, rfl, rfl, by rw [upd_self H20.out]; exact HS.out.vals ok (i := 21) rfl⟩
                    | 22, ho, hi, ha =>
                      obtain rfl : _ = o := Option.some.inj ho
                      have T20 : t 65 = .bool true := hs.val 20 rfl (ha { on := 20, ground := .guard } (by simp) rfl)
                      have H20 := Lib.hid T20
                      refine wpOp_step (i := 22) rfl (fun K hK => ?_)
                      have HK : Shut (∀ a w, _ → K a w) := hK
                      clear hK ho
                      have HS := Lib.hid hs
                      clear hs ha hi
                      go_simp
                      exact HK.out _ _ ⟨upd e 22 true, upd (upd t 65 _) 67 _, g, rfl, rfl, by rw [upd_self H20.out]; exact HS.out.vals ok (i := 22) rfl⟩
                    | 23, ho, hi, ha =>
                      obtain rfl : _ = o := Option.some.inj ho
                      have T20 : t 65 = .bool true := hs.val 20 rfl (ha { on := 20, ground := .guard } (by simp) rfl)
                      have H20 := Lib.hid T20
                      have T21 : t 66 = .slice (some ⟨gl, 0, none⟩) n c := hs.val 21 rfl (ha { on := 21, ground := .data } (by simp) rfl)
                      have H21 := Lib.hid T21
                      have T22 : t 67 = .int .i64 (k : Int) := hs.val 22 rfl (ha { on := 22, ground := .data } (by simp) rfl)
                      have H22 := Lib.hid T22
                      refine wpOp_step (i := 23) rfl (fun K hK => ?_)
                      have HK : Shut (∀ a w, _ → K a w) := hK
                      clear hK ho
                      have HS := Lib.hid hs
                      clear hs ha hi
                      go_simp
                      exact HK.out _ _ ⟨upd e 23 true, upd (upd (upd (upd t 65 _) 66 _) 67 _) 68 _, g, rfl, rfl, by rw [upd_self H20.out, upd_self H21.out, upd_self H22.out]; exact HS.out.vals ok (i := 23) rfl⟩
                    | 24, ho, hi, ha =>
                      obtain rfl : _ = o := Option.some.inj ho
                      have T20 : t 65 = .bool true := hs.val 20 rfl (ha { on := 20, ground := .guard } (by simp) rfl)
                      have H20 := Lib.hid T20
                      have T23 : t 68 = .pointer (some ⟨gl, k * 4, none⟩) := hs.val 23 rfl (ha { on := 23, ground := .data } (by simp) rfl)
                      have H23 := Lib.hid T23
                      refine wpOp_step (i := 24) rfl (fun K hK => ?_)
                      have HK : Shut (∀ a w, _ → K a w) := hK
                      clear hK ho
                      obtain ⟨c0, c1, c2, c3, cz⟩ := BX.out.next hs.be
                      have HS := Lib.hid hs
                      clear hs ha hi
                      go_simp
                      exact HK.out _ _ ⟨upd e 24 true, upd (upd (upd t 65 _) 68 _) 69 _, g, rfl, rfl, by rw [upd_self H20.out, upd_self H23.out]; exact HS.out.vals ok (i := 24) rfl⟩
                    | 25, ho, hi, ha =>
                      obtain rfl : _ = o := Option.some.inj ho
                      have T20 : t 65 = .bool true := hs.val 20 rfl (ha { on := 20, ground := .guard } (by simp) rfl)
                      have H20 := Lib.hid T20
                      refine wpOp_step (i := 25) rfl (fun K hK => ?_)
                      have HK : Shut (∀ a w, _ → K a w) := hK
                      clear hK ho
                      have HS := Lib.hid hs
                      clear hs ha hi
                      go_simp
                      exact HK.out _ _ ⟨upd e 25 true, upd (upd t 65 _) 70 _, g, rfl, rfl, by rw [upd_self H20.out]; exact HS.out.vals ok (i := 25) rfl⟩
                    | 26, ho, hi, ha =>
                      obtain rfl : _ = o := Option.some.inj ho
                      have T20 : t 65 = .bool true := hs.val 20 rfl (ha { on := 20, ground := .guard } (by simp) rfl)
                      have H20 := Lib.hid T20
                      refine wpOp_step (i := 26) rfl (fun K hK => ?_)
                      have HK : Shut (∀ a w, _ → K a w) := hK
                      clear hK ho
                      have HS := Lib.hid hs
                      clear hs ha hi
                      go_simp
                      exact HK.out _ _ ⟨upd e 26 true, upd (upd t 65 _) 71 _, g, rfl, rfl, by rw [upd_self H20.out]; exact HS.out.vals ok (i := 26) rfl⟩
                    | 27, ho, hi, ha =>
                      obtain rfl : _ = o := Option.some.inj ho
                      have T20 : t 65 = .bool true := hs.val 20 rfl (ha { on := 20, ground := .guard } (by simp) rfl)
                      have H20 := Lib.hid T20
                      have T25 : t 70 = .slice (some ⟨gl, 0, none⟩) n c := hs.val 25 rfl (ha { on := 25, ground := .data } (by simp) rfl)
                      have H25 := Lib.hid T25
                      have T26 : t 71 = .int .i64 (kk : Int) := hs.val 26 rfl (ha { on := 26, ground := .data } (by simp) rfl)
                      have H26 := Lib.hid T26
                      refine wpOp_step (i := 27) rfl (fun K hK => ?_)
                      have HK : Shut (∀ a w, _ → K a w) := hK
                      clear hK ho
                      have HS := Lib.hid hs
                      clear hs ha hi
                      go_simp
                      exact HK.out _ _ ⟨upd e 27 true, upd (upd (upd (upd t 65 _) 70 _) 71 _) 72 _, g, rfl, rfl, by rw [upd_self H20.out, upd_self H25.out, upd_self H26.out]; exact HS.out.vals ok (i := 27) rfl⟩
                    | 28, ho, hi, ha =>
                      obtain rfl : _ = o := Option.some.inj ho
                      have T20 : t 65 = .bool true := hs.val 20 rfl (ha { on := 20, ground := .guard } (by simp) rfl)
                      have H20 := Lib.hid T20
                      have T27 : t 72 = .pointer (some ⟨gl, kk * 4, none⟩) := hs.val 27 rfl (ha { on := 27, ground := .data } (by simp) rfl)
                      have H27 := Lib.hid T27
                      refine wpOp_step (i := 28) rfl (fun K hK => ?_)
                      have HK : Shut (∀ a w, _ → K a w) := hK
                      clear hK ho
                      obtain ⟨c0, c1, c2, c3, cz⟩ := BY.out.next hs.be
                      have HS := Lib.hid hs
                      clear hs ha hi
                      go_simp
                      exact HK.out _ _ ⟨upd e 28 true, upd (upd (upd t 65 _) 72 _) 73 _, g, rfl, rfl, by rw [upd_self H20.out, upd_self H27.out]; exact HS.out.vals ok (i := 28) rfl⟩
                    | 29, ho, hi, ha =>
                      obtain rfl : _ = o := Option.some.inj ho
                      have T20 : t 65 = .bool true := hs.val 20 rfl (ha { on := 20, ground := .guard } (by simp) rfl)
                      have H20 := Lib.hid T20
                      have T24 : t 69 = .agg #[.int .i64 x.b, .int .i64 x.d, .int .i64 x.s, .int .i64 x.i] := hs.val 24 rfl (ha { on := 24, ground := .data } (by simp) rfl)
                      have H24 := Lib.hid T24
                      have T28 : t 73 = .agg #[.int .i64 y.b, .int .i64 y.d, .int .i64 y.s, .int .i64 y.i] := hs.val 28 rfl (ha { on := 28, ground := .data } (by simp) rfl)
                      have H28 := Lib.hid T28
                      refine wpOp_step (i := 29) rfl (fun K hK => ?_)
                      have HK : Shut (∀ a w, _ → K a w) := hK
                      clear hK ho
                      have HS := Lib.hid hs
                      clear hs ha hi
                      go_simp
                      (with_reducible refine (LS _).mono ?_)
                      rintro e' w' ⟨rfl, m⟩
                      go_wp2_with fail
                      exact HK.out _ _ ⟨upd e 29 true, upd (upd (upd (upd t 65 _) 69 _) 73 _) 74 _, g, rfl, rfl, by rw [upd_self H20.out, upd_self H24.out, upd_self H28.out]; exact (HS.out.grow m.below).vals ok (i := 29) rfl⟩
                    | 30, ho, hi, ha =>
                      obtain rfl : _ = o := Option.some.inj ho
                      have T17 : t 62 = .bool false := hs.val 17 rfl (ha { on := 17, ground := .guard } (by simp) rfl)
                      have H17 := Lib.hid T17
                      have T20 : t 65 = .bool true := hs.val 20 rfl (ha { on := 20, ground := .data } (by simp) rfl)
                      have H20 := Lib.hid T20
                      have T29 : t 74 = .bool false := hs.val 29 rfl (ha { on := 29, ground := .data } (by simp) rfl)
                      have H29 := Lib.hid T29
                      refine wpOp_step (i := 30) rfl (fun K hK => ?_)
                      have HK : Shut (∀ a w, _ → K a w) := hK
                      clear hK ho
                      have HS := Lib.hid hs
                      clear hs ha hi
                      go_simp
                      exact HK.out _ _ ⟨upd e 30 true, upd (upd (upd (upd t 62 _) 65 _) 74 _) 75 _, g, rfl, rfl, by rw [upd_self H17.out, upd_self H20.out, upd_self H29.out]; exact HS.out.vals ok (i := 30) rfl⟩
                    | 31, ho, hi, ha =>
                      obtain rfl : _ = o := Option.some.inj ho
                      have T4 : t 49 = .bool true := hs.val 4 rfl (ha { on := 4, ground := .guard } (by simp) rfl)
                      have H4 := Lib.hid T4
                      have T17 : t 62 = .bool false := hs.val 17 rfl (ha { on := 17, ground := .data } (by simp) rfl)
                      have H17 := Lib.hid T17
                      have T30 : t 75 = .bool false := hs.val 30 rfl (ha { on := 30, ground := .data } (by simp) rfl)
                      have H30 := Lib.hid T30
                      refine wpOp_step (i := 31) rfl (fun K hK => ?_)
                      have HK : Shut (∀ a w, _ → K a w) := hK
                      clear hK ho
                      have HS := Lib.hid hs
                      clear hs ha hi
                      go_simp
                      exact HK.out _ _ ⟨upd e 31 true, upd (upd (upd (upd t 49 _) 62 _) 75 _) 76 _, g, rfl, rfl, by rw [upd_self H4.out, upd_self H17.out, upd_self H30.out]; exact HS.out.vals ok (i := 31) rfl⟩
                    | 32, ho, hi, ha =>
                      obtain rfl : _ = o := Option.some.inj ho
                      have T4 : t 49 = .bool true := hs.val 4 rfl (ha { on := 4, ground := .data } (by simp) rfl)
                      have H4 := Lib.hid T4
                      have T31 : t 76 = .bool false := hs.val 31 rfl (ha { on := 31, ground := .data } (by simp) rfl)
                      have H31 := Lib.hid T31
                      refine wpOp_step (i := 32) rfl (fun K hK => ?_)
                      have HK : Shut (∀ a w, _ → K a w) := hK
                      clear hK ho
                      have HS := Lib.hid hs
                      clear hs ha hi
                      go_simp
                      exact HK.out _ _ ⟨upd e 32 true, upd (upd (upd t 49 _) 76 _) 77 _, g, rfl, rfl, by rw [upd_self H4.out, upd_self H31.out]; exact HS.out.vals ok (i := 32) rfl⟩
                    | k + 33, ho, hi, ha => simp at ho
                  case done =>
                    rintro l a wr ⟨e, t, g, rfl, rfl, hs⟩ hr
                    have hd := ready_done hr rfl (by decide +kernel)
                    have e32 : e 32 = true := hd 32 (by decide)
                    have v77 : t 77 = .bool false := hs.val 32 rfl e32
                    have BE := Lib.hid (HB.out.trans (hs.be.mono HB.out.size))
                    have S6 := Lib.hid (HS6.out.next hs.be)
                    rw [v77]
                    generalize t 45 = u45, t 46 = u46, t 47 = u47, t 48 = u48, t 49 = u49, t 50 = u50, t 51 = u51, t 52 = u52, t 53 = u53, t 54 = u54, t 55 = u55, t 56 = u56, t 57 = u57, t 58 = u58, t 59 = u59, t 60 = u60, t 61 = u61, t 62 = u62, t 63 = u63, t 64 = u64, t 65 = u65, t 66 = u66, t 67 = u67, t 68 = u68, t 69 = u69, t 70 = u70, t 71 = u71, t 72 = u72, t 73 = u73, t 74 = u74, t 75 = u75, t 76 = u76
                    clear hs hd hr e32 v77 HB HS6
                    go_wp2
                    go_roundw
                    case rel => exact ⟨j + 1, by omega, by go_num, S6.out, BE.out⟩
                    case measure => simp [intOf]; omega
              · have c06 : ¬ (kk : Int) < (n : Int) := by omega
                obtain ⟨y, ey⟩ : ∃ y : En, y = y := ⟨x, rfl⟩
                clear ey
                go_wp2
                clear q1
                obtain ⟨wN, hwN⟩ : ∃ q, q = wr := ⟨wr, rfl⟩
                subst hwN
                have ok : (planN gl n c k kk x y).ok = true := rfl
                refine region_inv (Inv := fun l a wr => ∃ (e : Nat → Bool) (t : Nat → Value) (g : Nat → Nat), l = #[e 0, e 1, e 2, e 3, e 4, e 5, e 6, e 7, e 8, e 9, e 10, e 11, e 12, e 13, e 14, e 15, e 16, e 17, e 18, e 19, e 20, e 21, e 22, e 23, e 24, e 25, e 26, e 27, e 28, e 29, e 30, e 31, e 32] ∧ a = ⟨#[.slice (some ⟨gl, 0, none⟩) n c, undef, u2, .int .i64 (k : Int), .bool (evn k), .int .i64 0, undef, .int .i64 (kk : Int), .slice (some ⟨gl, 0, none⟩) n c, .int .i64 (n : Int), .int .i64 (k : Int), .bool true, .int .i64 (k : Int), .int .i64 (k : Int), .int .i64 0, .bool false, u16, u17, u18, u19, u20, .int .i64 (k : Int), .int .i64 (2 * (k : Int)), .int .i64 (2 * (k : Int) + 1), .int .i64 (k : Int), .int .i64 (2 * (k : Int)), .int .i64 (2 * (k : Int) + 2), .int .i64 (k : Int), .int .i64 (4 * (k : Int)), .int .i64 (4 * (k : Int) + 3), .int .i64 (k : Int), .int .i64 (4 * (k : Int)), .int .i64 (4 * (k : Int) + 4), .int .i64 (k : Int), .int .i64 (4 * (k : Int)), .int .i64 (4 * (k : Int) + 5), .int .i64 (k : Int), .int .i64 (4 * (k : Int)), .int .i64 (4 * (k : Int) + 6), .slice (some ⟨g6, 0, none⟩) 6 6, .int .i64 6, .int .i64 (j : Int), .bool true, .pointer (some ⟨g6, j, none⟩), .int .i64 (kk : Int), t 45, t 46, t 47, t 48, t 49, t 50, t 51, t 52, t 53, t 54, t 55, t 56, t 57, t 58, t 59, t 60, t 61, t 62, t 63, t 64, t 65, t 66, t 67, t 68, t 69, t 70, t 71, t 72, t 73, t 74, t 75, t 76, t 77, u78, u79], []⟩ ∧ Stage (planN gl n c k kk x y) wN e t g wr) (by kernel_rfl) ?step ?start ?done
                case start => exact ⟨fun _ => false, fun i => if i = 45 then u45 else if i = 46 then u46 else if i = 47 then u47 else if i = 48 then u48 else if i = 49 then u49 else if i = 50 then u50 else if i = 51 then u51 else if i = 52 then u52 else if i = 53 then u53 else if i = 54 then u54 else if i = 55 then u55 else if i = 56 then u56 else if i = 57 then u57 else if i = 58 then u58 else if i = 59 then u59 else if i = 60 then u60 else if i = 61 then u61 else if i = 62 then u62 else if i = 63 then u63 else if i = 64 then u64 else if i = 65 then u65 else if i = 66 then u66 else if i = 67 then u67 else if i = 68 then u68 else if i = 69 then u69 else if i = 70 then u70 else if i = 71 then u71 else if i = 72 then u72 else if i = 73 then u73 else if i = 74 then u74 else if i = 75 then u75 else if i = 76 then u76 else if i = 77 then u77 else undef, fun _ => 0, rfl, rfl, Stage.start _ _ _ _⟩
                case step =>
                  rintro l a wr ⟨e, t, g, rfl, rfl, hs⟩ i o ho hi ha
                  match i, ho, hi, ha with
                  | 0, ho, hi, ha =>
                    obtain rfl : _ = o := Option.some.inj ho
                    refine wpOp_step (i := 0) rfl (fun K hK => ?_)
                    have HK : Shut (∀ a w, _ → K a w) := hK
                    clear hK ho
                    have HS := Lib.hid hs
                    clear hs ha hi
                    go_simp
                    exact HK.out _ _ ⟨upd e 0 true, upd t 45 _, g, rfl, rfl, by exact HS.out.vals ok (i := 0) rfl⟩
                  | 1, ho, hi, ha =>
                    obtain rfl : _ = o := Option.some.inj ho
                    refine wpOp_step (i := 1) rfl (fun K hK => ?_)
                    have HK : Shut (∀ a w, _ → K a w) := hK
                    clear hK ho
                    have HS := Lib.hid hs
                    clear hs ha hi
                    go_simp
                    exact HK.out _ _ ⟨upd e 1 true, upd t 46 _, g, rfl, rfl, by exact HS.out.vals ok (i := 1) rfl⟩
                  | 2, ho, hi, ha =>
                    obtain rfl : _ = o := Option.some.inj ho
                    have T1 : t 46 = .slice (some ⟨gl, 0, none⟩) n c := hs.val 1 rfl (ha { on := 1, ground := .data } (by simp) rfl)
                    have H1 := Lib.hid T1
                    refine wpOp_step (i := 2) rfl (fun K hK => ?_)
                    have HK : Shut (∀ a w, _ → K a w) := hK
                    clear hK ho
                    have HS := Lib.hid hs
                    clear hs ha hi
                    go_simp
                    exact HK.out _ _ ⟨upd e 2 true, upd (upd t 46 _) 47 _, g, rfl, rfl, by rw [upd_self H1.out]; exact HS.out.vals ok (i := 2) rfl⟩
                  | 3, ho, hi, ha =>
                    obtain rfl : _ = o := Option.some.inj ho
                    have T0 : t 45 = .int .i64 (kk : Int) := hs.val 0 rfl (ha { on := 0, ground := .data } (by simp) rfl)
                    have H0 := Lib.hid T0
                    have T2 : t 47 = .int .i64 (n : Int) := hs.val 2 rfl (ha { on := 2, ground := .data } (by simp) rfl)
                    have H2 := Lib.hid T2
                    refine wpOp_step (i := 3) rfl (fun K hK => ?_)
                    have HK : Shut (∀ a w, _ → K a w) := hK
                    clear hK ho
                    have HS := Lib.hid hs
                    clear hs ha hi
                    go_simp
                    exact HK.out _ _ ⟨upd e 3 true, upd (upd (upd t 45 _) 47 _) 48 _, g, rfl, rfl, by rw [upd_self H0.out, upd_self H2.out]; exact HS.out.vals ok (i := 3) rfl⟩
                  | 4, ho, hi, ha =>
                    obtain rfl : _ = o := Option.some.inj ho
                    have T3 : t 48 = .bool false := hs.val 3 rfl (ha { on := 3, ground := .data } (by simp) rfl)
                    have H3 := Lib.hid T3
                    refine wpOp_step (i := 4) rfl (fun K hK => ?_)
                    have HK : Shut (∀ a w, _ → K a w) := hK
                    clear hK ho
                    have HS := Lib.hid hs
                    clear hs ha hi
                    go_simp
                    exact HK.out _ _ ⟨upd e 4 true, upd (upd t 48 _) 49 _, g, rfl, rfl, by rw [upd_self H3.out]; exact HS.out.vals ok (i := 4) rfl⟩
                  | 5, ho, hi, ha =>
                    obtain rfl : _ = o := Option.some.inj ho
                    have T4 : t 49 = .bool false := hs.val 4 rfl (ha { on := 4, ground := .guard } (by simp) rfl)
                    have H4 := Lib.hid T4
                    refine wpOp_step (i := 5) rfl (fun K hK => ?_)
                    have HK : Shut (∀ a w, _ → K a w) := hK
                    clear hK ho
                    have HS := Lib.hid hs
                    clear hs ha hi
                    go_simp
                    exact HK.out _ _ ⟨upd e 5 true, upd (upd t 49 _) 50 _, g, rfl, rfl, by rw [upd_self H4.out]; exact HS.out.vals ok (i := 5) rfl⟩
                  | 6, ho, hi, ha =>
                    obtain rfl : _ = o := Option.some.inj ho
                    have T4 : t 49 = .bool false := hs.val 4 rfl (ha { on := 4, ground := .guard } (by simp) rfl)
                    have H4 := Lib.hid T4
                    refine wpOp_step (i := 6) rfl (fun K hK => ?_)
                    have HK : Shut (∀ a w, _ → K a w) := hK
                    clear hK ho
                    have HS := Lib.hid hs
                    clear hs ha hi
                    go_simp
                    exact HK.out _ _ ⟨upd e 6 true, upd (upd t 49 _) 51 _, g, rfl, rfl, by rw [upd_self H4.out]; exact HS.out.vals ok (i := 6) rfl⟩
                  | 7, ho, hi, ha =>
                    obtain rfl : _ = o := Option.some.inj ho
                    have T6 : t 51 = .tuple #[] := hs.val 6 rfl (ha { on := 6, ground := .guard } (by simp) rfl)
                    have H6 := Lib.hid T6
                    refine wpOp_step (i := 7) rfl (fun K hK => ?_)
                    have HK : Shut (∀ a w, _ → K a w) := hK
                    clear hK ho
                    have HS := Lib.hid hs
                    clear hs ha hi
                    go_simp
                    exact HK.out _ _ ⟨upd e 7 true, upd (upd t 51 _) 52 _, g, rfl, rfl, by rw [upd_self H6.out]; exact HS.out.vals ok (i := 7) rfl⟩
                  | 8, ho, hi, ha =>
                    obtain rfl : _ = o := Option.some.inj ho
                    have T6 : t 51 = .tuple #[] := hs.val 6 rfl (ha { on := 6, ground := .guard } (by simp) rfl)
                    have H6 := Lib.hid T6
                    refine wpOp_step (i := 8) rfl (fun K hK => ?_)
                    have HK : Shut (∀ a w, _ → K a w) := hK
                    clear hK ho
                    have HS := Lib.hid hs
                    clear hs ha hi
                    go_simp
                    exact HK.out _ _ ⟨upd e 8 true, upd (upd t 51 _) 53 _, g, rfl, rfl, by rw [upd_self H6.out]; exact HS.out.vals ok (i := 8) rfl⟩
                  | 9, ho, hi, ha =>
                    obtain rfl : _ = o := Option.some.inj ho
                    have T6 : t 51 = .tuple #[] := hs.val 6 rfl (ha { on := 6, ground := .guard } (by simp) rfl)
                    have H6 := Lib.hid T6
                    refine wpOp_step (i := 9) rfl (fun K hK => ?_)
                    have HK : Shut (∀ a w, _ → K a w) := hK
                    clear hK ho
                    have HS := Lib.hid hs
                    clear hs ha hi
                    go_simp
                    exact HK.out _ _ ⟨upd e 9 true, upd (upd t 51 _) 54 _, g, rfl, rfl, by rw [upd_self H6.out]; exact HS.out.vals ok (i := 9) rfl⟩
                  | 10, ho, hi, ha =>
                    obtain rfl : _ = o := Option.some.inj ho
                    have T6 : t 51 = .tuple #[] := hs.val 6 rfl (ha { on := 6, ground := .guard } (by simp) rfl)
                    have H6 := Lib.hid T6
                    refine wpOp_step (i := 10) rfl (fun K hK => ?_)
                    have HK : Shut (∀ a w, _ → K a w) := hK
                    clear hK ho
                    have HS := Lib.hid hs
                    clear hs ha hi
                    go_simp
                    exact HK.out _ _ ⟨upd e 10 true, upd (upd t 51 _) 55 _, g, rfl, rfl, by rw [upd_self H6.out]; exact HS.out.vals ok (i := 10) rfl⟩
                  | 11, ho, hi, ha =>
                    obtain rfl : _ = o := Option.some.inj ho
                    have T6 : t 51 = .tuple #[] := hs.val 6 rfl (ha { on := 6, ground := .guard } (by simp) rfl)
                    have H6 := Lib.hid T6
                    refine wpOp_step (i := 11) rfl (fun K hK => ?_)
                    have HK : Shut (∀ a w, _ → K a w) := hK
                    clear hK ho
                    have HS := Lib.hid hs
                    clear hs ha hi
                    go_simp
                    exact HK.out _ _ ⟨upd e 11 true, upd (upd t 51 _) 56 _, g, rfl, rfl, by rw [upd_self H6.out]; exact HS.out.vals ok (i := 11) rfl⟩
                  | 12, ho, hi, ha =>
                    obtain rfl : _ = o := Option.some.inj ho
                    have T6 : t 51 = .tuple #[] := hs.val 6 rfl (ha { on := 6, ground := .guard } (by simp) rfl)
                    have H6 := Lib.hid T6
                    refine wpOp_step (i := 12) rfl (fun K hK => ?_)
                    have HK : Shut (∀ a w, _ → K a w) := hK
                    clear hK ho
                    have HS := Lib.hid hs
                    clear hs ha hi
                    go_simp
                    exact HK.out _ _ ⟨upd e 12 true, upd (upd t 51 _) 57 _, g, rfl, rfl, by rw [upd_self H6.out]; exact HS.out.vals ok (i := 12) rfl⟩
                  | 13, ho, hi, ha =>
                    obtain rfl : _ = o := Option.some.inj ho
                    have T6 : t 51 = .tuple #[] := hs.val 6 rfl (ha { on := 6, ground := .guard } (by simp) rfl)
                    have H6 := Lib.hid T6
                    refine wpOp_step (i := 13) rfl (fun K hK => ?_)
                    have HK : Shut (∀ a w, _ → K a w) := hK
                    clear hK ho
                    have HS := Lib.hid hs
                    clear hs ha hi
                    go_simp
                    exact HK.out _ _ ⟨upd e 13 true, upd (upd t 51 _) 58 _, g, rfl, rfl, by rw [upd_self H6.out]; exact HS.out.vals ok (i := 13) rfl⟩
                  | 14, ho, hi, ha =>
                    obtain rfl : _ = o := Option.some.inj ho
                    have T6 : t 51 = .tuple #[] := hs.val 6 rfl (ha { on := 6, ground := .guard } (by simp) rfl)
                    have H6 := Lib.hid T6
                    refine wpOp_step (i := 14) rfl (fun K hK => ?_)
                    have HK : Shut (∀ a w, _ → K a w) := hK
                    clear hK ho
                    have HS := Lib.hid hs
                    clear hs ha hi
                    go_simp
                    exact HK.out _ _ ⟨upd e 14 true, upd (upd t 51 _) 59 _, g, rfl, rfl, by rw [upd_self H6.out]; exact HS.out.vals ok (i := 14) rfl⟩
                  | 15, ho, hi, ha =>
                    obtain rfl : _ = o := Option.some.inj ho
                    have T6 : t 51 = .tuple #[] := hs.val 6 rfl (ha { on := 6, ground := .guard } (by simp) rfl)
                    have H6 := Lib.hid T6
                    refine wpOp_step (i := 15) rfl (fun K hK => ?_)
                    have HK : Shut (∀ a w, _ → K a w) := hK
                    clear hK ho
                    have HS := Lib.hid hs
                    clear hs ha hi
                    go_simp
                    exact HK.out _ _ ⟨upd e 15 true, upd (upd t 51 _) 60 _, g, rfl, rfl, by rw [upd_self H6.out]; exact HS.out.vals ok (i := 15) rfl⟩
                  | 16, ho, hi, ha =>
                    obtain rfl : _ = o := Option.some.inj ho
                    have T4 : t 49 = .bool false := hs.val 4 rfl (ha { on := 4, ground := .guard } (by simp) rfl)
                    have H4 := Lib.hid T4
                    refine wpOp_step (i := 16) rfl (fun K hK => ?_)
                    have HK : Shut (∀ a w, _ → K a w) := hK
                    clear hK ho
                    have HS := Lib.hid hs
                    clear hs ha hi
                    go_simp
                    exact HK.out _ _ ⟨upd e 16 true, upd (upd t 49 _) 61 _, g, rfl, rfl, by rw [upd_self H4.out]; exact HS.out.vals ok (i := 16) rfl⟩
                  | 17, ho, hi, ha =>
                    obtain rfl : _ = o := Option.some.inj ho
                    have T4 : t 49 = .bool false := hs.val 4 rfl (ha { on := 4, ground := .guard } (by simp) rfl)
                    have H4 := Lib.hid T4
                    refine wpOp_step (i := 17) rfl (fun K hK => ?_)
                    have HK : Shut (∀ a w, _ → K a w) := hK
                    clear hK ho
                    have HS := Lib.hid hs
                    clear hs ha hi
                    go_simp
                    exact HK.out _ _ ⟨upd e 17 true, upd (upd t 49 _) 62 _, g, rfl, rfl, by rw [upd_self H4.out]; exact HS.out.vals ok (i := 17) rfl⟩
                  | 18, ho, hi, ha =>
                    obtain rfl : _ = o := Option.some.inj ho
                    have T17 : t 62 = .tuple #[] := hs.val 17 rfl (ha { on := 17, ground := .guard } (by simp) rfl)
                    have H17 := Lib.hid T17
                    refine wpOp_step (i := 18) rfl (fun K hK => ?_)
                    have HK : Shut (∀ a w, _ → K a w) := hK
                    clear hK ho
                    have HS := Lib.hid hs
                    clear hs ha hi
                    go_simp
                    exact HK.out _ _ ⟨upd e 18 true, upd (upd t 62 _) 63 _, g, rfl, rfl, by rw [upd_self H17.out]; exact HS.out.vals ok (i := 18) rfl⟩
                  | 19, ho, hi, ha =>
                    obtain rfl : _ = o := Option.some.inj ho
                    have T17 : t 62 = .tuple #[] := hs.val 17 rfl (ha { on := 17, ground := .guard } (by simp) rfl)
                    have H17 := Lib.hid T17
                    refine wpOp_step (i := 19) rfl (fun K hK => ?_)
                    have HK : Shut (∀ a w, _ → K a w) := hK
                    clear hK ho
                    have HS := Lib.hid hs
                    clear hs ha hi
                    go_simp
                    exact HK.out _ _ ⟨upd e 19 true, upd (upd t 62 _) 64 _, g, rfl, rfl, by rw [upd_self H17.out]; exact HS.out.vals ok (i := 19) rfl⟩
                  | 20, ho, hi, ha =>
                    obtain rfl : _ = o := Option.some.inj ho
                    have T17 : t 62 = .tuple #[] := hs.val 17 rfl (ha { on := 17, ground := .guard } (by simp) rfl)
                    have H17 := Lib.hid T17
                    refine wpOp_step (i := 20) rfl (fun K hK => ?_)
                    have HK : Shut (∀ a w, _ → K a w) := hK
                    clear hK ho
                    have HS := Lib.hid hs
                    clear hs ha hi
                    go_simp
                    exact HK.out _ _ ⟨upd e 20 true, upd (upd t 62 _) 65 _, g, rfl, rfl, by rw [upd_self H17.out]; exact HS.out.vals ok (i := 20) rfl⟩
                  | 21, ho, hi, ha =>
                    obtain rfl : _ = o := Option.some.inj ho
                    have T20 : t 65 = .tuple #[] := hs.val 20 rfl (ha { on := 20, ground := .guard } (by simp) rfl)
                    have H20 := Lib.hid T20
                    refine wpOp_step (i := 21) rfl (fun K hK => ?_)
                    have HK : Shut (∀ a w, _ → K a w) := hK
                    clear hK ho
                    have HS := Lib.hid hs
                    clear hs ha hi
                    go_simp
                    exact HK.out _ _ ⟨upd e 21 true, upd (upd t 65 _) 66 _, g, rfl, rfl, by rw [upd_self H20.out]; exact HS.out.vals ok (i := 21) rfl⟩
                  | 22, ho, hi, ha =>
                    obtain rfl : _ = o := Option.some.inj ho
                    have T20 : t 65 = .tuple #[] := hs.val 20 rfl (ha { on := 20, ground := .guard } (by simp) rfl)
                    have H20 := Lib.hid T20
                    refine wpOp_step (i := 22) rfl (fun K hK => ?_)
                    have HK : Shut (∀ a w, _ → K a w) := hK
                    clear hK ho
                    have HS := Lib.hid hs
                    clear hs ha hi
                    go_simp
                    exact HK.out _ _ ⟨upd e 22 true, upd (upd t 65 _) 67 _, g, rfl, rfl, by rw [upd_self H20.out]; exact HS.out.vals ok (i := 22) rfl⟩
                  | 23, ho, hi, ha =>
                    obtain rfl : _ = o := Option.some.inj ho
                    have T20 : t 65 = .tuple #[] := hs.val 20 rfl (ha { on := 20, ground := .guard } (by simp) rfl)
                    have H20 := Lib.hid T20
                    refine wpOp_step (i := 23) rfl (fun K hK => ?_)
                    have HK : Shut (∀ a w, _ → K a w) := hK
                    clear hK ho
                    have HS := Lib.hid hs
                    clear hs ha hi
                    go_simp
                    exact HK.out _ _ ⟨upd e 23 true, upd (upd t 65 _) 68 _, g, rfl, rfl, by rw [upd_self H20.out]; exact HS.out.vals ok (i := 23) rfl⟩
                  | 24, ho, hi, ha =>
                    obtain rfl : _ = o := Option.some.inj ho
                    have T20 : t 65 = .tuple #[] := hs.val 20 rfl (ha { on := 20, ground := .guard } (by simp) rfl)
                    have H20 := Lib.hid T20
                    refine wpOp_step (i := 24) rfl (fun K hK => ?_)
                    have HK : Shut (∀ a w, _ → K a w) := hK
                    clear hK ho
                    have HS := Lib.hid hs
                    clear hs ha hi
                    go_simp
                    exact HK.out _ _ ⟨upd e 24 true, upd (upd t 65 _) 69 _, g, rfl, rfl, by rw [upd_self H20.out]; exact HS.out.vals ok (i := 24) rfl⟩
                  | 25, ho, hi, ha =>
                    obtain rfl : _ = o := Option.some.inj ho
                    have T20 : t 65 = .tuple #[] := hs.val 20 rfl (ha { on := 20, ground := .guard } (by simp) rfl)
                    have H20 := Lib.hid T20
                    refine wpOp_step (i := 25) rfl (fun K hK => ?_)
                    have HK : Shut (∀ a w, _ → K a w) := hK
                    clear hK ho
                    have HS := Lib.hid hs
                    clear hs ha hi
                    go_simp
                    exact HK.out _ _ ⟨upd e 25 true, upd (upd t 65 _) 70 _, g, rfl, rfl, by rw [upd_self H20.out]; exact HS.out.vals ok (i := 25) rfl⟩
                  | 26, ho, hi, ha =>
                    obtain rfl : _ = o := Option.some.inj ho
                    have T20 : t 65 = .tuple #[] := hs.val 20 rfl (ha { on := 20, ground := .guard } (by simp) rfl)
                    have H20 := Lib.hid T20
                    refine wpOp_step (i := 26) rfl (fun K hK => ?_)
                    have HK : Shut (∀ a w, _ → K a w) := hK
                    clear hK ho
                    have HS := Lib.hid hs
                    clear hs ha hi
                    go_simp
                    exact HK.out _ _ ⟨upd e 26 true, upd (upd t 65 _) 71 _, g, rfl, rfl, by rw [upd_self H20.out]; exact HS.out.vals ok (i := 26) rfl⟩
                  | 27, ho, hi, ha =>
                    obtain rfl : _ = o := Option.some.inj ho
                    have T20 : t 65 = .tuple #[] := hs.val 20 rfl (ha { on := 20, ground := .guard } (by simp) rfl)
                    have H20 := Lib.hid T20
                    refine wpOp_step (i := 27) rfl (fun K hK => ?_)
                    have HK : Shut (∀ a w, _ → K a w) := hK
                    clear hK ho
                    have HS := Lib.hid hs
                    clear hs ha hi
                    go_simp
                    exact HK.out _ _ ⟨upd e 27 true, upd (upd t 65 _) 72 _, g, rfl, rfl, by rw [upd_self H20.out]; exact HS.out.vals ok (i := 27) rfl⟩
                  | 28, ho, hi, ha =>
                    obtain rfl : _ = o := Option.some.inj ho
                    have T20 : t 65 = .tuple #[] := hs.val 20 rfl (ha { on := 20, ground := .guard } (by simp) rfl)
                    have H20 := Lib.hid T20
                    refine wpOp_step (i := 28) rfl (fun K hK => ?_)
                    have HK : Shut (∀ a w, _ → K a w) := hK
                    clear hK ho
                    have HS := Lib.hid hs
                    clear hs ha hi
                    go_simp
                    exact HK.out _ _ ⟨upd e 28 true, upd (upd t 65 _) 73 _, g, rfl, rfl, by rw [upd_self H20.out]; exact HS.out.vals ok (i := 28) rfl⟩
                  | 29, ho, hi, ha =>
                    obtain rfl : _ = o := Option.some.inj ho
                    have T20 : t 65 = .tuple #[] := hs.val 20 rfl (ha { on := 20, ground := .guard } (by simp) rfl)
                    have H20 := Lib.hid T20
                    refine wpOp_step (i := 29) rfl (fun K hK => ?_)
                    have HK : Shut (∀ a w, _ → K a w) := hK
                    clear hK ho
                    have HS := Lib.hid hs
                    clear hs ha hi
                    go_simp
                    exact HK.out _ _ ⟨upd e 29 true, upd (upd t 65 _) 74 _, g, rfl, rfl, by rw [upd_self H20.out]; exact HS.out.vals ok (i := 29) rfl⟩
                  | 30, ho, hi, ha =>
                    obtain rfl : _ = o := Option.some.inj ho
                    have T17 : t 62 = .tuple #[] := hs.val 17 rfl (ha { on := 17, ground := .guard } (by simp) rfl)
                    have H17 := Lib.hid T17
                    refine wpOp_step (i := 30) rfl (fun K hK => ?_)
                    have HK : Shut (∀ a w, _ → K a w) := hK
                    clear hK ho
                    have HS := Lib.hid hs
                    clear hs ha hi
                    go_simp
                    exact HK.out _ _ ⟨upd e 30 true, upd (upd t 62 _) 75 _, g, rfl, rfl, by rw [upd_self H17.out]; exact HS.out.vals ok (i := 30) rfl⟩
                  | 31, ho, hi, ha =>
                    obtain rfl : _ = o := Option.some.inj ho
                    have T4 : t 49 = .bool false := hs.val 4 rfl (ha { on := 4, ground := .guard } (by simp) rfl)
                    have H4 := Lib.hid T4
                    refine wpOp_step (i := 31) rfl (fun K hK => ?_)
                    have HK : Shut (∀ a w, _ → K a w) := hK
                    clear hK ho
                    have HS := Lib.hid hs
                    clear hs ha hi
                    go_simp
                    exact HK.out _ _ ⟨upd e 31 true, upd (upd t 49 _) 76 _, g, rfl, rfl, by rw [upd_self H4.out]; exact HS.out.vals ok (i := 31) rfl⟩
                  | 32, ho, hi, ha =>
                    obtain rfl : _ = o := Option.some.inj ho
                    have T4 : t 49 = .bool false := hs.val 4 rfl (ha { on := 4, ground := .data } (by simp) rfl)
                    have H4 := Lib.hid T4
                    refine wpOp_step (i := 32) rfl (fun K hK => ?_)
                    have HK : Shut (∀ a w, _ → K a w) := hK
                    clear hK ho
                    have HS := Lib.hid hs
                    clear hs ha hi
                    go_simp
                    exact HK.out _ _ ⟨upd e 32 true, upd (upd t 49 _) 77 _, g, rfl, rfl, by rw [upd_self H4.out]; exact HS.out.vals ok (i := 32) rfl⟩
                  | k + 33, ho, hi, ha => simp at ho
                case done =>
                  rintro l a wr ⟨e, t, g, rfl, rfl, hs⟩ hr
                  have hd := ready_done hr rfl (by decide +kernel)
                  have e32 : e 32 = true := hd 32 (by decide)
                  have v77 : t 77 = .bool false := hs.val 32 rfl e32
                  have BE := Lib.hid (HB.out.trans (hs.be.mono HB.out.size))
                  have S6 := Lib.hid (HS6.out.next hs.be)
                  rw [v77]
                  generalize t 45 = u45, t 46 = u46, t 47 = u47, t 48 = u48, t 49 = u49, t 50 = u50, t 51 = u51, t 52 = u52, t 53 = u53, t 54 = u54, t 55 = u55, t 56 = u56, t 57 = u57, t 58 = u58, t 59 = u59, t 60 = u60, t 61 = u61, t 62 = u62, t 63 = u63, t 64 = u64, t 65 = u65, t 66 = u66, t 67 = u67, t 68 = u68, t 69 = u69, t 70 = u70, t 71 = u71, t 72 = u72, t 73 = u73, t 74 = u74, t 75 = u75, t 76 = u76
                  clear hs hd hr e32 v77 HB HS6
                  go_wp2
                  go_roundw
                  case rel => exact ⟨j + 1, by omega, by go_num, S6.out, BE.out⟩
                  case measure => simp [intOf]; omega
            · obtain rfl : j = 6 := by omega
              have HB := Lib.hid hbe
              clear hbe hS
              go_wp2
              go_roundw
              case rel => exact ⟨k + 1, by omega, by go_num, HB.out⟩
              case measure => simp [intOf]; omega
    · obtain rfl : k = n := by omega
      go_wp2
      go_ret
      exact ⟨rfl, HBE.out⟩
theorem stands_nil (w : World) : Calls Try.prog 19 #[.slice none 0 0] w fun e w' => e = .returned (.bool true) ∧ Below w.heap.size w w' := by
  go_enter Try.func19, Try.ntmps19
  go_wp2
  go_loopw [10] (fun i wr => i = .int .i64 0 ∧ w = wr) (fun _ _ => 0)
  case atStart => exact ⟨rfl, rfl⟩
  case round =>
    obtain ⟨rfl, rfl⟩ := hrel
    go_wp2
    go_ret
    exact ⟨rfl, Below.refl _ _⟩
theorem stands_any (l : List En) (hn : l.length ≤ 1000) (hr : Right l) (v : Value) (w : World) (h : Lists w v l) : Calls Try.prog 19 #[v] w fun e w' => e = .returned (.bool true) ∧ Below w.heap.size w w' := by
  rcases h with ⟨rfl, rfl⟩ | ⟨g, c, rfl, hL⟩
  · exact stands_nil w
  · exact stands_some l hn hr g c w hL
end Go.Proofs.Ytaeabihogidmfaa
