/-
  What the document's Equal does (layer 9).
-/
import Derived.Test.YtbadingdklenhaaDoorInstEqA
import Derived.ChangeKeysEq
namespace Go.Proofs.YtbadingdklenhaaDoor
set_option maxRecDepth 100000
open Go.RowKit

theorem cells_i64 : Tryd.prog.cellsOf 2 = 1 := by kernel_rfl
theorem info_i64 : ∃ i, Tryd.prog.info? 2 = some i := by
  have h : (Tryd.prog.info? 2).isSome = true := by kernel_rfl
  exact Option.isSome_iff_exists.1 h
theorem arr_neq (a b c d : Int) (w : World) : (binOp .neq 64 (.agg #[.int .i64 a, .int .i64 b]) (.agg #[.int .i64 c, .int .i64 d])).run Tryd.prog w = .ok (.bool (!(a == c && b == d))) w := by
  obtain ⟨i, hi⟩ := info_i64
  rw [run_neq_struct, run_equalIn_array w 9999 _ _ Tryd.underlying64 hi, cells_i64]
  have e1 := fun W x y => run_equalIn_int (P := Tryd.prog) W 9998 2 .i64 .i64 x y Tryd.underlying2
  simp [Op.eqItems, List.range_succ, part, e1]
  cases h1 : (a == c) <;> cases h2 : (b == d) <;> simp_all

set_option maxHeartbeats 2000000 in
theorem requal_any (F G F' G' : Nat → Prop) (I J : In) (u v : Value) (w : World) (h1 : Ins F G w u I) (h2 : Ins F' G' w v J) :
    Calls Tryd.prog 16 #[u, v] w fun e w' => e = .returned (.bool (In.eqI I J)) ∧ Below w.heap.size w w' := by
  obtain ⟨vi, vc, vs, uc, us, rfl, hi, hc, hs⟩ := h1.form
  obtain ⟨xi, xc, xs, yc, ys, rfl, ji, jc, js⟩ := h2.form
  obtain ⟨A0, C0, rfl, q0, p0⟩ := hi.form
  obtain ⟨A, C, rfl, q1, p1⟩ := hc.form
  obtain ⟨A2, C2, rfl, q2, p2⟩ := hs.form
  obtain ⟨A3, C3, rfl, q3, p3⟩ := ji.form
  obtain ⟨A4, C4, rfl, q4, p4⟩ := jc.form
  obtain ⟨A5, C5, rfl, q5, p5⟩ := js.form
  unfold maxLen at p0 p1 p2 p3 p4 p5
  obtain ⟨T, hT⟩ : ∃ T, In.eqI I J = T := ⟨_, rfl⟩
  rw [hT]
  unfold In.eqI at hT
  have HT := Lib.hid hT
  have nb := (new_below w (.cells #[.int .i64 I.kind, .int .i64 I.cap, .slice A0 I.items.length C0, .slice A I.cost.length C, .int .i64 I.size, .slice A2 I.sets.length C2] 36)).alloc (by simp) (.cells #[.int .i64 J.kind, .int .i64 J.cap, .slice A3 J.items.length C3, .slice A4 J.cost.length C4, .int .i64 J.size, .slice A5 J.sets.length C5] 36)
  have HB := Lib.hid nb
  have AN := fun a b c d W => arr_neq a b c d W
  clear h1 h2 hT
  by_cases k1 : I.kind = J.kind
  · by_cases k2 : I.cap = J.cap
    · by_cases k3 : I.size = J.size
      · by_cases l1 : I.items.length = J.items.length
        · by_cases l2 : I.cost.length = J.cost.length
          · by_cases l3 : I.sets.length = J.sets.length
            · have HX := Lib.hid ((ibox_new w (.int .i64 I.kind) (.int .i64 I.cap) (.slice A0 I.items.length C0) (.slice A I.cost.length C) (.int .i64 I.size) (.slice A2 I.sets.length C2) 36).next (new_below _ (.cells #[.int .i64 J.kind, .int .i64 J.cap, .slice A3 J.items.length C3, .slice A4 J.cost.length C4, .int .i64 J.size, .slice A5 J.sets.length C5] 36)))
              have HY := Lib.hid (ibox_new (w.alloc (.cells #[.int .i64 I.kind, .int .i64 I.cap, .slice A0 I.items.length C0, .slice A I.cost.length C, .int .i64 I.size, .slice A2 I.sets.length C2] 36)) (.int .i64 J.kind) (.int .i64 J.cap) (.slice A3 J.items.length C3) (.slice A4 J.cost.length C4) (.int .i64 J.size) (.slice A5 J.sets.length C5) 36)
              rw [World.size_alloc] at HY
              have HI := Lib.hid (hi.next nb)
              have HC := Lib.hid (hc.next nb)
              have HS := Lib.hid (hs.next nb)
              have JI := Lib.hid (ji.next nb)
              have JC := Lib.hid (jc.next nb)
              have JS := Lib.hid (js.next nb)
              have HR : Hid ((decide (I.items = J.items) && decide (I.cost = J.cost) && decide (I.sets = J.sets)) = T) := by show _ = _; rw [← HT.out]; simp [k1, k2, k3]
              have L1 := Lib.hid l1
              have L2 := Lib.hid l2
              have L3 := Lib.hid l3
              rw [← k1, ← k2, ← k3, ← l1, ← l2, ← l3] at HX HY HB HI HC HS JI JC JS ⊢
              clear HT k1 k2 k3 hi hc hs ji jc js nb l1 l2 l3
              go_enter Tryd.func16, Tryd.ntmps16
              go_wp2
              obtain ⟨w1, hw1⟩ : ∃ q, q = ((w.alloc (.cells #[.int .i64 I.kind, .int .i64 I.cap, .slice A0 I.items.length C0, .slice A I.cost.length C, .int .i64 I.size, .slice A2 I.sets.length C2] 36)).alloc (.cells #[.int .i64 I.kind, .int .i64 I.cap, .slice A3 I.items.length C3, .slice A4 I.cost.length C4, .int .i64 I.size, .slice A5 I.sets.length C5] 36)) := ⟨_, rfl⟩
              rw [← hw1] at HX HY HB HI HC HS JI JC JS ⊢
              clear hw1
              go_loopw [5] (fun i wr => ∃ (k : Nat), k ≤ I.items.length ∧ i = .int .i64 (k : Nat) ∧ Hid (Drawn w1 wr) ∧ Hid ((decide (I.items.drop k = J.items.drop k) && (decide (I.cost = J.cost) && decide (I.sets = J.sets))) = T)) (fun i _ => I.items.length - (intOf i).toNat)
              case atStart => exact ⟨0, by omega, rfl, Drawn.refl _, by show _ = _; rw [← HR.out, Bool.and_assoc]; rfl⟩
              case round =>
                obtain ⟨k, hk, rfl, hD, hQ⟩ := hrel
                have hB := hD.out.below (B := w1.heap.size)
                have HB1 := Lib.hid (HB.out.trans (hD.out.below (B := w.heap.size)))
                obtain ⟨x0, x1, x2, x3, x4, x5⟩ := HX.out.next hB
                obtain ⟨y0, y1, y2, y3, y4, y5⟩ := HY.out.next hB
                by_cases hlt : k < I.items.length
                · obtain ⟨b, off, x, rfl, _, hb, hx, c0, c1⟩ := (HI.out.next hB).get hlt
                  obtain ⟨b2, off2, y, rfl, _, hb2, hy, d0, d1⟩ := (JI.out.next hB).get (i := k) (by have := L1.out; omega)
                  have hq := hQ.out
                  rw [eq_drop hx hy] at hq
                  have c01 : (0 : Int) ≤ (k : Int) := by omega
                  have c02 : (k : Int) < (I.items.length : Int) := by omega
                  have HD := hD
                  clear hQ hx hy hD hB
                  obtain ⟨xa, xb⟩ := x
                  obtain ⟨ya, yb⟩ := y
                  simp only at c0 c1 d0 d1
                  by_cases h : xa = ya
                  · subst h
                    by_cases h' : xb = yb
                    · subst h'
                      have HQ1 : Hid ((decide (I.items.drop (k + 1) = J.items.drop (k + 1)) && (decide (I.cost = J.cost) && decide (I.sets = J.sets))) = T) := by show _ = _; rw [← hq]; simp
                      clear hq
                      go_wp2
                      go_quiet (fail)
                      go_wp2
                      go_roundw
                      case rel => exact ⟨k + 1, by omega, by go_num, HD.out.more _, HQ1⟩
                      case measure => simp [intOf]; omega
                    · have HR1 : Hid (T = false) := by show _ = _; rw [← hq]; simp [h']
                      have hne : (xb == yb) = false := by simpa using h'
                      clear hq
                      go_wp2
                      go_quiet (fail)
                      go_wp2
                      go_ret
                      exact ⟨by rw [HR1.out]; rfl, below_drewN HB1.out _⟩
                  · have HR1 : Hid (T = false) := by show _ = _; rw [← hq]; simp [h]
                    have hne : (xa == ya) = false := by simpa using h
                    clear hq
                    go_wp2
                    go_quiet (fail)
                    go_wp2
                    go_ret
                    exact ⟨by rw [HR1.out]; rfl, below_drewN HB1.out _⟩
                · obtain rfl : k = I.items.length := by omega
                  have hq := hQ.out
                  rw [eq_done L1.out, Bool.true_and] at hq
                  have HQ1 := Lib.hid hq
                  have HXk := Lib.hid (HX.out.next hB)
                  have HYk := Lib.hid (HY.out.next hB)
                  have HCk := Lib.hid (HC.out.next hB)
                  have HSk := Lib.hid (HS.out.next hB)
                  have JCk := Lib.hid (JC.out.next hB)
                  have JSk := Lib.hid (JS.out.next hB)
                  clear hq hQ hB hD HR HX HY HC HS JC JS HI JI HB AN
                  go_wp2
                  obtain ⟨w2, hw2⟩ : ∃ q, q = wr := ⟨wr, rfl⟩
                  subst hw2
                  clear x0 x1 x2 x3 x4 x5 y0 y1 y2 y3 y4 y5
                  go_loopw [6] (fun i wr => ∃ (k : Nat), k ≤ I.cost.length ∧ i = .int .i64 (k : Nat) ∧ Hid (Drawn w2 wr) ∧ Hid ((decide (I.cost.drop k = J.cost.drop k) && decide (I.sets = J.sets)) = T)) (fun i _ => I.cost.length - (intOf i).toNat)
                  case atStart => exact ⟨0, by omega, rfl, Drawn.refl _, HQ1⟩
                  case round =>
                    obtain ⟨k, hk, rfl, hD, hQ⟩ := hrel
                    have hB := hD.out.below (B := w2.heap.size)
                    have HB2 := Lib.hid (HB1.out.trans (hD.out.below (B := w.heap.size)))
                    obtain ⟨x0, x1, x2, x3, x4, x5⟩ := HXk.out.next hB
                    obtain ⟨y0, y1, y2, y3, y4, y5⟩ := HYk.out.next hB
                    by_cases hlt : k < I.cost.length
                    · obtain ⟨b, off, r, A', C', rfl, _, hb, hr, c0, _, hC', hM', hI⟩ := (HCk.out.next hB).get hlt
                      obtain ⟨b2, off2, s, A2', C2', rfl, _, hb2, hs, d0, _, hC2', hM2', hI2⟩ := (JCk.out.next hB).get (i := k) (by have := L2.out; omega)
                      have hq := hQ.out
                      rw [eq_drop hr hs] at hq
                      have c01 : (0 : Int) ≤ (k : Int) := by omega
                      have c02 : (k : Int) < (I.cost.length : Int) := by omega
                      have HD := hD
                      unfold maxLen at hM' hM2'
                      by_cases hl : r.length = s.length
                      · have LL := Lib.hid hl
                        rw [← hl] at d0 hI2
                        have HQ2 := Lib.hid hq
                        have HXr := Lib.hid (HXk.out.next hB)
                        have HYr := Lib.hid (HYk.out.next hB)
                        have HII := Lib.hid hI
                        have HII2 := Lib.hid hI2
                        have HRC : Hid (wr.cell? ⟨b, off + k, none⟩ = some (.slice A' r.length C')) := c0
                        have HRD : Hid (wr.cell? ⟨b2, off2 + k, none⟩ = some (.slice A2' r.length C2')) := d0
                        clear hQ hr hs hD hB hI hI2 hl hq
                        go_wp2
                        go_quiet (fail)
                        go_wp2
                        have hB := (Drawn.refl wr).more nq |>.below (B := wr.heap.size)
                        have HD3 := Lib.hid (HD.out.more nq)
                        have HB3 := Lib.hid (below_drewN HB2.out nq)
                        have HX3 := Lib.hid (HXr.out.next hB)
                        have HY3 := Lib.hid (HYr.out.next hB)
                        have HI3 := Lib.hid (HII.out.next hB)
                        have HI4 := Lib.hid (HII2.out.next hB)
                        have HRC3 : Hid ((wr.drewN nq).cell? ⟨b, off + k, none⟩ = some (.slice A' r.length C')) := HRC.out
                        have HRD3 : Hid ((wr.drewN nq).cell? ⟨b2, off2 + k, none⟩ = some (.slice A2' r.length C2')) := HRD.out
                        clear hB x0 x1 x2 x3 x4 x5 y0 y1 y2 y3 y4 y5 c0 d0 HXr HYr HII HII2 HRC HRD HD
                        obtain ⟨w3, hw3⟩ : ∃ q, q = wr.drewN nq := ⟨_, rfl⟩
                        rw [← hw3] at HD3 HB3 HX3 HY3 HI3 HI4 HRC3 HRD3 ⊢
                        have hb : b < w3.heap.size := cell_lt HRC3.out
                        have hb2 : b2 < w3.heap.size := cell_lt HRD3.out
                        clear hw3
                        go_loopw [7] (fun i wr => ∃ (j : Nat), j ≤ r.length ∧ i = .int .i64 (j : Nat) ∧ Hid (Drawn w3 wr) ∧ Hid (((decide (r.drop j = s.drop j) && decide (I.cost.drop (k + 1) = J.cost.drop (k + 1))) && decide (I.sets = J.sets)) = T)) (fun i _ => r.length - (intOf i).toNat)
                        case atStart => exact ⟨0, by omega, rfl, Drawn.refl _, HQ2⟩
                        case round =>
                          obtain ⟨j, hj, rfl, hD, hQ⟩ := hrel
                          have hB := hD.out.below (B := w3.heap.size)
                          have HB4 := Lib.hid (HB3.out.trans (hD.out.below (B := w.heap.size)))
                          obtain ⟨x0, x1, x2, x3, x4, x5⟩ := HX3.out.next hB
                          obtain ⟨y0, y1, y2, y3, y4, y5⟩ := HY3.out.next hB
                          have c0 := (hB.cell (p := ⟨b, off + k, none⟩) hb).trans HRC3.out
                          have d0 := (hB.cell (p := ⟨b2, off2 + k, none⟩) hb2).trans HRD3.out
                          by_cases hlj : j < r.length
                          · obtain ⟨b', off', x, rfl, _, hb', hx, c1⟩ := (HI3.out.next hB).get hlj
                            obtain ⟨b2', off2', y, rfl, _, hb2', hy, d1⟩ := (HI4.out.next hB).get (i := j) (by have := LL.out; omega)
                            have hq := hQ.out
                            rw [eq_drop hx hy] at hq
                            have e01 : (0 : Int) ≤ (j : Int) := by omega
                            have e02 : (j : Int) < (r.length : Int) := by omega
                            have HD4 := hD
                            clear hQ hx hy hD hB
                            by_cases h : x = y
                            · subst h
                              have HQ3 : Hid (((decide (r.drop (j + 1) = s.drop (j + 1)) && decide (I.cost.drop (k + 1) = J.cost.drop (k + 1))) && decide (I.sets = J.sets)) = T) := by show _ = _; rw [← hq]; simp
                              clear hq
                              go_wp2
                              go_quiet (fail)
                              go_wp2
                              go_roundw
                              case rel => exact ⟨j + 1, by omega, by go_num, HD4.out.more _, HQ3⟩
                              case measure => simp [intOf]; omega
                            · have HR1 : Hid (T = false) := by show _ = _; rw [← hq]; simp [h]
                              have hne : (x == y) = false := by simpa using h
                              clear hq
                              go_wp2
                              go_quiet (fail)
                              go_wp2
                              go_ret
                              exact ⟨by rw [HR1.out]; rfl, below_drewN HB4.out _⟩
                          · obtain rfl : j = r.length := by omega
                            have hq := hQ.out
                            rw [eq_done LL.out, Bool.true_and] at hq
                            have HQ3 := Lib.hid hq
                            have HDD : Hid (Drawn w2 wr) := by
                              obtain ⟨n1, e1⟩ := hD.out
                              rw [e1]
                              exact HD3.out.more _
                            clear hq hQ hB hD
                            go_wp2
                            go_roundw
                            case rel => exact ⟨k + 1, by omega, by go_num, HDD, HQ3⟩
                            case measure => simp [intOf]; omega
                      · have HR1 : Hid (T = false) := by show _ = _; rw [← hq, decide_eq_false (fun e => hl (by rw [e]))]; rfl
                        have hne : ((r.length : Int) == (s.length : Int)) = false := by rw [beq_eq_false_iff_ne]; omega
                        clear hQ hr hs hD hB hI hI2 hl hq
                        go_wp2
                        go_quiet (fail)
                        go_wp2
                        go_ret
                        exact ⟨by rw [HR1.out]; rfl, below_drewN HB2.out _⟩
                    · obtain rfl : k = I.cost.length := by omega
                      have hq := hQ.out
                      rw [eq_done L2.out, Bool.true_and] at hq
                      have HQ2 := Lib.hid hq
                      have HXl := Lib.hid (HXk.out.next hB)
                      have HYl := Lib.hid (HYk.out.next hB)
                      have HSl := Lib.hid (HSk.out.next hB)
                      have JSl := Lib.hid (JSk.out.next hB)
                      clear hq hQ hB hD HXk HYk HCk HSk JCk JSk HB1 HQ1
                      go_wp2
                      obtain ⟨w3, hw3⟩ : ∃ q, q = wr := ⟨wr, rfl⟩
                      subst hw3
                      clear x0 x1 x2 x3 x4 x5 y0 y1 y2 y3 y4 y5
                      go_loopw [8] (fun i wr => ∃ (k : Nat), k ≤ I.sets.length ∧ i = .int .i64 (k : Nat) ∧ Hid (Drawn w3 wr) ∧ Hid (decide (I.sets.drop k = J.sets.drop k) = T)) (fun i _ => I.sets.length - (intOf i).toNat)
                      case atStart => exact ⟨0, by omega, rfl, Drawn.refl _, HQ2⟩
                      case round =>
                        obtain ⟨k, hk, rfl, hD, hQ⟩ := hrel
                        have hB := hD.out.below (B := w3.heap.size)
                        have HB3 := Lib.hid (HB2.out.trans (hD.out.below (B := w.heap.size)))
                        obtain ⟨x0, x1, x2, x3, x4, x5⟩ := HXl.out.next hB
                        obtain ⟨y0, y1, y2, y3, y4, y5⟩ := HYl.out.next hB
                        by_cases hlt : k < I.sets.length
                        · obtain ⟨b, off, s, A', C', rfl, _, hb, hs, c0, c1, _, hC', hM', hI⟩ := (HSl.out.next hB).get hlt
                          obtain ⟨b2, off2, t, A2', C2', rfl, _, hb2, ht, d0, d1, _, hC2', hM2', hI2⟩ := (JSl.out.next hB).get (i := k) (by have := L3.out; omega)
                          have hq := hQ.out
                          rw [eq_drop hs ht] at hq
                          have RI := fun n => rInts_any G G' s.2 t.2 _ _ (wr.drewN n) (hI.next (below_drewN (Below.refl _ _) n)) (hI2.next (below_drewN (Below.refl _ _) n))
                          have c01 : (0 : Int) ≤ (k : Int) := by omega
                          have c02 : (k : Int) < (I.sets.length : Int) := by omega
                          have HD := hD
                          clear hQ hs ht hD hB hI hI2
                          go_wp2
                          go_quiet ((go_at_call 31; exact Calls.quiet_of (RI _)))
                          clear RI
                          by_cases h2 : s.2 = t.2
                          · rw [decide_eq_true h2]
                            by_cases h1 : s.1 = t.1
                            · have HQ3 : Hid (decide (I.sets.drop (k + 1) = J.sets.drop (k + 1)) = T) := by show _ = _; rw [← hq]; simp [Prod.ext_iff, h1, h2]
                              rw [h1] at c0
                              clear hq h1 h2
                              go_wp2
                              go_quiet (fail)
                              go_wp2
                              go_roundw
                              case rel => exact ⟨k + 1, by omega, by go_num, HD.out.more _, HQ3⟩
                              case measure => simp [intOf]; omega
                            · have HR1 : Hid (T = false) := by show _ = _; rw [← hq]; simp [Prod.ext_iff, h1]
                              have hne : (s.1 == t.1) = false := by simpa using h1
                              clear hq h2
                              go_wp2
                              go_quiet (fail)
                              go_wp2
                              go_ret
                              exact ⟨by rw [HR1.out]; rfl, below_drewN (below_drewN HB3.out _) _⟩
                          · rw [decide_eq_false h2]
                            have HR1 : Hid (T = false) := by show _ = _; rw [← hq]; simp [Prod.ext_iff, h2]
                            by_cases h1 : s.1 = t.1
                            · rw [h1] at c0
                              clear hq h1 h2
                              go_wp2
                              go_quiet (fail)
                              go_wp2
                              go_ret
                              exact ⟨by rw [HR1.out]; rfl, below_drewN (below_drewN HB3.out _) _⟩
                            · have hne : (s.1 == t.1) = false := by simpa using h1
                              clear hq h2
                              go_wp2
                              go_quiet (fail)
                              go_wp2
                              go_ret
                              exact ⟨by rw [HR1.out]; rfl, below_drewN (below_drewN HB3.out _) _⟩
                        · obtain rfl : k = I.sets.length := by omega
                          have hq := hQ.out
                          rw [eq_done L3.out] at hq
                          have HR1 : Hid (T = true) := hq.symm
                          clear hq hQ hB hD
                          go_wp2
                          go_ret
                          exact ⟨by rw [HR1.out]; rfl, HB3.out⟩
            · have HR : Hid (T = false) := by show _ = _; rw [← HT.out, decide_eq_false (show ¬ I.sets = J.sets from fun e => l3 (by rw [e]))]; simp
              have hne : ((I.sets.length : Int) == (J.sets.length : Int)) = false := by rw [beq_eq_false_iff_ne]; omega
              have hnf : ((I.sets.length : Int) != (J.sets.length : Int)) = true := by rw [bne, hne]; rfl
              rw [← k1, ← k2, ← k3, ← l1, ← l2] at HB ⊢
              clear HT k1 k2 k3 hi hc hs ji jc js nb l1 l2 l3
              go_enter Tryd.func16, Tryd.ntmps16
              go_wp2
              go_ret
              exact ⟨by rw [HR.out]; rfl, HB.out⟩
          · have HR : Hid (T = false) := by show _ = _; rw [← HT.out, decide_eq_false (show ¬ I.cost = J.cost from fun e => l2 (by rw [e]))]; simp
            have hne : ((I.cost.length : Int) == (J.cost.length : Int)) = false := by rw [beq_eq_false_iff_ne]; omega
            have hnf : ((I.cost.length : Int) != (J.cost.length : Int)) = true := by rw [bne, hne]; rfl
            rw [← k1, ← k2, ← k3, ← l1] at HB ⊢
            clear HT k1 k2 k3 hi hc hs ji jc js nb l1 l2
            go_enter Tryd.func16, Tryd.ntmps16
            go_wp2
            go_ret
            exact ⟨by rw [HR.out]; rfl, HB.out⟩
        · have HR : Hid (T = false) := by show _ = _; rw [← HT.out, decide_eq_false (show ¬ I.items = J.items from fun e => l1 (by rw [e]))]; simp
          have hne : ((I.items.length : Int) == (J.items.length : Int)) = false := by rw [beq_eq_false_iff_ne]; omega
          have hnf : ((I.items.length : Int) != (J.items.length : Int)) = true := by rw [bne, hne]; rfl
          rw [← k1, ← k2, ← k3] at HB ⊢
          clear HT k1 k2 k3 hi hc hs ji jc js nb l1
          go_enter Tryd.func16, Tryd.ntmps16
          go_wp2
          go_ret
          exact ⟨by rw [HR.out]; rfl, HB.out⟩
      · have HR : Hid (T = false) := by show _ = _; rw [← HT.out]; simp [k3]
        have hne : (I.size == J.size) = false := by simpa using k3
        rw [← k1, ← k2] at HB ⊢
        clear HT k1 k2 hi hc hs ji jc js nb
        go_enter Tryd.func16, Tryd.ntmps16
        go_wp2
        go_ret
        exact ⟨by rw [HR.out]; rfl, HB.out⟩
    · have HR : Hid (T = false) := by show _ = _; rw [← HT.out]; simp [k2]
      have hne : (I.cap == J.cap) = false := by simpa using k2
      rw [← k1] at HB ⊢
      clear HT k1 hi hc hs ji jc js nb
      go_enter Tryd.func16, Tryd.ntmps16
      go_wp2
      go_ret
      exact ⟨by rw [HR.out]; rfl, HB.out⟩
  · have HR : Hid (T = false) := by show _ = _; rw [← HT.out]; simp [k1]
    have hne : (I.kind == J.kind) = false := by simpa using k1
    clear HT hi hc hs ji jc js nb
    go_enter Tryd.func16, Tryd.ntmps16
    go_wp2
    go_ret
    exact ⟨by rw [HR.out]; rfl, HB.out⟩
end Go.Proofs.YtbadingdklenhaaDoor
