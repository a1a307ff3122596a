/-
  What the laws of layer 7 share: of, wakes.
-/
import Derived.Test.YtiighhcilgjebaaDeDrop
import Derived.Test.YtiighhcilgjebaaDeSorted
namespace Go.Proofs.Ytiighhcilgjebaa
set_option maxRecDepth 100000
open Go.RowKit Go.Sort

theorem of_any (x : En) (w : World) :
    Calls Try.prog 7 #[entV x] w fun e w' => e = .returned (entV x) ∧ More w w' := by
  unfold entV
  go_enter Try.func7, Try.ntmps7
  go_wp2
  exact bodyPost_ret (v := .agg #[.int .i64 x.b, .int .i64 x.d, .int .i64 x.s, .int .i64 x.i]) (by simp [results, Try.results7, go_sem]) rfl ⟨rfl, ((More.refl w).alloc _).alloc _⟩
theorem own_slice {w : World} {B n : Nat} {t : TypeId} {v : Value} {xs : List Value} (h : w.ownsRow B t 4 v n xs) : ∃ p c, v = .slice p n c := by
  rcases h.2 with ⟨rfl, h0⟩ | ⟨g, cap, cur, rfl, _⟩
  · exact ⟨none, 0, by rw [h0]⟩
  · exact ⟨_, _, rfl⟩
theorem drop_nil (b : Int) (w : World) : Calls Try.prog 22 #[.pointer none, .int .i64 b] w fun e w' => e = .returned (.slice none 0 0) ∧ Below w.heap.size w w' := by
  have C := maxD_nil w
  unfold Told entV zeroE at C
  have C2 := rev_none none 0
  go_enter Try.func22, Try.ntmps22
  go_wp2_with fail
  with_reducible refine C.mono ?_
  rintro e w1 ⟨rfl, be1⟩
  have HB := Lib.hid (be1.alloc be1.size (.cells #[.int .i64 0, .int .i64 0, .int .i64 0, .int .i64 0] 32))
  clear be1 C
  go_wp2
  go_loopw [5, 7] (fun d o wr => d = .slice none 0 0 ∧ o = .bool false ∧ Below w.heap.size w wr) (fun _ _ _ => 0)
  case atStart => exact ⟨rfl, rfl, HB.out⟩
  case round =>
    obtain ⟨rfl, rfl, hb⟩ := hrel
    have HB2 := Lib.hid hb
    clear hb
    go_wp2_with fail
    with_reducible refine (C2 _).mono ?_
    rintro e w2 ⟨rfl, rfl⟩
    clear C2
    go_wp2
    go_ret
    exact ⟨rfl, HB2.out⟩
/-- What wakes puts in: the bounds 1, 5, 3, 5. -/
def wkB : List Int := [1, 5, 3, 5]
def wkL : List En := [⟨1, 0, 0, 0⟩, ⟨5, 0, 0, 1⟩, ⟨3, 0, 0, 2⟩, ⟨5, 0, 0, 3⟩]
def wkS : List En := [⟨1, 0, 0, 0⟩, ⟨3, 0, 0, 2⟩, ⟨5, 0, 0, 1⟩, ⟨5, 0, 0, 3⟩]
theorem wk_srt : srt wkL = wkS := by
  refine (srt_unique (l := wkL) (m := wkS) ?_ ?_).symm
  · unfold wkL wkS
    generalize (⟨1, 0, 0, 0⟩ : En) = a
    generalize (⟨5, 0, 0, 1⟩ : En) = b
    generalize (⟨3, 0, 0, 2⟩ : En) = c
    generalize (⟨5, 0, 0, 3⟩ : En) = d
    exact List.Perm.cons a (List.Perm.swap b c [d])
  · unfold Srt eltP wkS
    simp
theorem wk_cut : cutN wkS 4 = 2 := by decide
theorem wk_at (k : Nat) (h : k < 4) : ∃ b : Int, wkB[k]? = some b ∧ wkL[k]? = some ⟨b, 0, 0, (k : Int)⟩ := by
  match k, h with
  | 0, _ => exact ⟨1, rfl, rfl⟩
  | 1, _ => exact ⟨5, rfl, rfl⟩
  | 2, _ => exact ⟨3, rfl, rfl⟩
  | 3, _ => exact ⟨5, rfl, rfl⟩
theorem wk_succ (k : Nat) {x : En} (h : wkL[k]? = some x) : wkL.take (k + 1) = wkL.take k ++ [x] := by
  rw [List.take_add_one, h]
  rfl
set_option maxHeartbeats 8000000 in
theorem wakes_any (w : World) : Calls Try.prog 10 #[] w fun e w' => e = .returned (.bool true) ∧ Below w.heap.size w w' := by
  obtain ⟨i0, hi, hz0, hz1, hz2⟩ := info_parts' infoE
  have HB0 : Hid (Below w.heap.size w (w.alloc (.cells #[.int .i64 1, .int .i64 5, .int .i64 3, .int .i64 5] 2))) := (Below.refl _ _).alloc (Nat.le_refl _) _
  have HN0 := Lib.hid (heap_alloc_new w (.cells #[.int .i64 1, .int .i64 5, .int .i64 3, .int .i64 5] 2))
  go_enter Try.func10, Try.ntmps10
  go_wp2
  go_loopw [1, 8] (fun a i wr => ∃ k : Nat, k ≤ 4 ∧ i = .int .i64 (k : Int) ∧ wr.ownsRow (w.heap.size + 1) 32 4 a k (flatE (wkL.take k)) ∧ Below w.heap.size w wr ∧ wr.heap[w.heap.size]? = some (.cells #[.int .i64 1, .int .i64 5, .int .i64 3, .int .i64 5] 2 (0, 0))) (fun _ i _ => 4 - (intOf i).toNat)
  case atStart => exact ⟨0, by omega, rfl, World.ownsRow_nil _ _ _ _, HB0.out, HN0.out⟩
  case round =>
    obtain ⟨k, hk, rfl, hown, hbe, hnb⟩ := hrel
    by_cases hlt : k < 4
    · obtain ⟨b, hb, hx⟩ := wk_at k hlt
      have c0 : wr.cell? ⟨w.heap.size, k, none⟩ = some (.int .i64 b) := by
        rw [cell_of hnb]
        have e : (#[.int .i64 1, .int .i64 5, .int .i64 3, .int .i64 5] : Array Value) = (wkB.map (Value.int .i64)).toArray := rfl
        rw [e, List.getElem?_toArray, List.getElem?_map, hb]
        rfl
      have hzl := (Array.getElem?_eq_some_iff.1 hnb).1
      have HX := Lib.hid (wk_succ k hx)
      have BB : Below wr.heap.size wr (wr.alloc (.cells #[.int .i64 b, .int .i64 0, .int .i64 0, .int .i64 (k : Int)] 32)) := (Below.refl _ _).alloc (Nat.le_refl _) _
      have HO2 := Lib.hid (own_kept hown BB)
      have HB2 := Lib.hid (hbe.trans (BB.mono hbe.size))
      have HN2 := Lib.hid ((BB.block _ hzl).trans hnb)
      have HNW := Lib.hid (heap_alloc_new wr (.cells #[.int .i64 b, .int .i64 0, .int .i64 0, .int .i64 (k : Int)] 32))
      clear hb hx hown hbe hnb BB
      go_wp2_with (at_builtin; refine wpList_append_lies _ rfl _ _ 25 rfl (w.heap.size + 1) 32 i0 (.agg #[.int .i64 0, .int .i64 0, .int .i64 0, .int .i64 0]) 4 32 Try.underlying25 hi hz0 hz1 hz2 rfl (by decide) _ _ _ rfl HO2.out ⟨wr.heap.size, 0, none⟩ 1 1 (encE ⟨b, 0, 0, (k : Int)⟩) rfl rfl ?c1 ?c2 ?c3 ?c4 ?c5 ?c6 (wr.heap.size + 1) ?c7 ?_)
      case c1 => exact World.news_of_block (cs := #[.int .i64 b, .int .i64 0, .int .i64 0, .int .i64 (k : Int)]) HNW.out
      case c2 => intro u hu; simp [encE] at hu; rcases hu with rfl | rfl | rfl | rfl <;> rfl
      case c3 => omega
      case c4 => unfold maxLen; omega
      case c5 => omega
      case c6 => simp; omega
      case c7 => simp
      · intro g1 cap1 w2 hown1 hgrow _ hlt1
        have hr : ∀ q, u1.ownBlock = some q → w.heap.size + 1 ≤ q := fun q hq => (HO2.out.lt q hq).1
        have O2 : Hid (w2.ownsRow (w.heap.size + 1) 32 4 (.slice (some ⟨g1, 0, none⟩) (k + 1) cap1) (k + 1) (flatE (wkL.take (k + 1)))) := by
          show World.ownsRow _ _ _ _ _ _ _
          rw [HX.out, flatE_append, flatE_cons, flatE_nil, List.append_nil]
          exact hown1
        have B2 := Lib.hid (HB2.out.grown hgrow (by simp; omega) (fun q hq => by have := hr q hq; omega))
        have N2 := Lib.hid ((hgrow.block w.heap.size (by simp; omega) (fun e => by have := hr _ e.symm; omega)).trans HN2.out)
        clear hown1 hgrow hlt1 hr HO2 HB2 HN2 HNW
        go_wp2
        go_roundw
        case rel => exact ⟨k + 1, by omega, by go_num, O2.out, B2.out, N2.out⟩
        case measure => simp [intOf]; omega
    · obtain rfl : k = 4 := by omega
      obtain ⟨p, c, rfl⟩ := own_slice hown
      have hL : Lists wr (.slice p 4 c) wkL := lists_own (l := wkL) hown
      obtain ⟨g, hp, hLA⟩ : ∃ g, p = some ⟨g, 0, none⟩ ∧ ListAt wr g wkL := by
        rcases hL with ⟨h, _⟩ | ⟨g, c', h, hLA⟩
        · simp at h
        · simp at h
          exact ⟨g, h.1, hLA⟩
      subst hp
      have C := bulk_ok true 4 wkL _ wr (by decide) (by decide) (by decide) (by decide) hL
      rw [show kN true = 1 from rfl] at C
      have HBE := Lib.hid hbe
      have HLA := Lib.hid hLA
      clear hown hbe hL hnb hLA
      rw [show ((4 : Nat) : Int) = 4 from rfl]
      go_wp2_with fail
      with_reducible refine C.mono ?_
      rintro e w1 ⟨db, rfl, hd, be1⟩
      rw [wk_srt] at hd
      have HB1 := Lib.hid (HBE.out.trans (be1.mono HBE.out.size))
      obtain ⟨F, hF⟩ : ∃ F : Nat → Prop, F = fun b => wr.heap.size ≤ b ∧ b < w1.heap.size := ⟨_, rfl⟩
      have HF1 : Hid (∀ b, F b → w.heap.size ≤ b) := fun b hb => by rw [hF] at hb; exact Nat.le_trans HBE.out.size hb.1
      rw [← hF] at hd
      clear hF
      have HLA1 := Lib.hid (HLA.out.next be1)
      have R := hd.room (by decide) (by decide) (by decide)
      rw [show (4 : Int) - (wkS.length : Int) = 0 from rfl] at R
      have HD1 := Lib.hid hd
      clear hd be1 C HBE HLA
      go_wp2_with fail
      with_reducible refine R.mono ?_
      rintro e w2 ⟨rfl, be2⟩
      have hd2 := HD1.out.next be2
      have HLA2 := HLA1.out.next be2
      have ⟨a0, a1, a2, a3⟩ : w2.cell? ⟨g, 0, none⟩ = some (.int .i64 1) ∧ w2.cell? ⟨g, 1, none⟩ = some (.int .i64 0) ∧ w2.cell? ⟨g, 2, none⟩ = some (.int .i64 0) ∧ w2.cell? ⟨g, 3, none⟩ = some (.int .i64 0) := HLA2.nth (i := 0) (by decide)
      have P := pushD_full (nth wkL 0) w2 hd2 (by decide) (by decide) (by decide) (by decide)
      unfold entV at P
      have HB2 := Lib.hid (HB1.out.trans (be2.mono HB1.out.size))
      have HD2 := Lib.hid hd2
      clear be2 hd2 HLA2 R HLA1 HD1 HB1
      go_wp2_with fail
      with_reducible refine P.mono ?_
      rintro e w3 ⟨rfl, be3⟩
      have hd3 := HD2.out.next be3
      have D := drop_any 4 w3 (by decide) hd3
      rw [wk_cut] at D
      have HB3 := Lib.hid (HB2.out.trans (be3.mono HB2.out.size))
      clear be3 hd3 P HD2 HB2 a0 a1 a2 a3
      go_wp2_with fail
      with_reducible refine D.mono ?_
      rintro e w4 ⟨v4, rfl, ho4, hd4, hk4⟩
      have hf3 : ∀ b, F b → w.heap.size ≤ b := HF1.out
      have B4 := HB3.out.trans (hk4.below (B := w.heap.size) HB3.out.size hf3)
      obtain ⟨p4, c4, rfl⟩ := own_slice ho4
      have E := evict_any 1 w4 (by decide) hd4
      rw [show (min (1 : Int) ((evL wkS 2).length : Int)).toNat = 1 from rfl] at E
      have HB4 := Lib.hid B4
      clear ho4 hd4 hk4 B4 D HB3 hf3
      go_wp2_with fail
      with_reducible refine E.mono ?_
      rintro e w5 ⟨v5, rfl, ho5, hd5, hk5⟩
      have hf4 : ∀ b, F b → w.heap.size ≤ b := HF1.out
      have B5 := HB4.out.trans (hk5.below (B := w.heap.size) HB4.out.size hf4)
      obtain ⟨p5, c5, rfl⟩ := own_slice ho5
      have L := hd5.len
      rw [show ((evL (evL wkS 2) 1).length : Int) = 1 from rfl] at L
      obtain ⟨hb, v, l, hda, _⟩ := hd5.at_
      have K := kind_any w5 db true hb v l 4 hda
      rw [show kN true = 1 from rfl] at K
      have HB5 := Lib.hid B5
      clear ho5 hd5 hk5 B5 E HB4 hf4 hda
      go_wp2_with fail
      with_reducible refine L.mono ?_
      rintro e w6 ⟨rfl, rfl⟩
      clear L
      go_wp2_with fail
      with_reducible refine K.mono ?_
      rintro e w6 ⟨rfl, rfl⟩
      clear K
      go_wp2
      go_ret
      exact ⟨rfl, HB5.out⟩
end Go.Proofs.Ytiighhcilgjebaa
