/-
  What Evict, Drop and Sorted of a heap of either kind do (layer 7).
-/
import Derived.Test.YtiighhcilgjebaaDePush
import Derived.Test.YtiighhcilgjebaaDeMath
import Derived.Test.YtiighhcilgjebaaDeRev
import Derived.Test.YtiighhcilgjebaaKeySort2
namespace Go.Proofs.Ytiighhcilgjebaa
set_option maxRecDepth 100000
open Go.RowKit Go.Sort

theorem De.len {w : World} {F : Nat → Prop} {db : Nat} {k : Bool} {m : List En} {most : Int} (h : De w F db k m most) : Calls Try.prog 13 #[.pointer (some ⟨db, 0, none⟩)] w fun e w' => e = .returned (.int .i64 (m.length : Int)) ∧ w = w' := by
  obtain ⟨hb, v, l, hd, rfl, h3, h4⟩ := h.at_
  rw [srt_length]
  exact len_anyD w db k hb v l most hd
theorem row_keptF {F : Nat → Prop} {w w' : World} {B n : Nat} {T : TypeId} {u : Value} {xs : List Value} (h : w.ownsRow B T 4 u n xs) (ho : Kept F w w') (h3 : ∀ q, u.ownBlock = some q → ¬ F q) : w'.ownsRow B T 4 u n xs := by
  refine ⟨h.1, ?_⟩
  rcases h.2 with hn | ⟨g, cap, cur, rfl, hb, hgg, rest⟩
  · exact .inl hn
  · exact .inr ⟨g, cap, cur, rfl, hb, (ho.block g (Array.getElem?_eq_some_iff.1 hgg).1 (h3 g rfl)).trans hgg, rest⟩
theorem Kept.grown {F : Nat → Prop} {w w' w'' : World} {r : Option Nat} (h : Kept F w w') (k : w'.grownBy w'' r) (hr : ∀ q, r = some q → F q ∨ w.heap.size ≤ q) : Kept F w w'' := by
  refine ⟨k.os.trans h.os, k.tape.trans h.tape, k.output.trans h.output, Nat.le_trans h.size k.size, fun j hj hn => (k.block j (Nat.lt_of_lt_of_le hj h.size) (fun e => ?_)).trans (h.block j hj hn)⟩
  rcases hr j e.symm with f | f
  · exact hn f
  · omega
theorem De.grown {w w' : World} {F : Nat → Prop} {db : Nat} {k : Bool} {m : List En} {most : Int} {r : Option Nat} (h : De w F db k m most) (g : w.grownBy w' r) (hr : ∀ q, r = some q → ¬ F q) : De w' F db k m most :=
  h.kept (G := fun b => r = some b) ((Kept.refl _ w).grown g (fun _ e => .inl e)) (fun b f e => hr b e f)
/-- What Evict answers and leaves. -/
def EvictOk (F : Nat → Prop) (db : Nat) (k : Bool) (m : List En) (most : Int) (c : Nat) (w : World) (e : Ending) (w' : World) : Prop :=
  ∃ v, e = .returned v ∧ w'.ownsRow w.heap.size 32 4 v c (flatE (evO m c)) ∧ De w' F db k (evL m c) most ∧ Kept F w w'
set_option maxHeartbeats 4000000 in
theorem evict_nil (n : Int) (w : World) : Calls Try.prog 21 #[.pointer none, .int .i64 n] w fun e w' => e = .returned (.slice none 0 0) ∧ w = w' := by
  have C := len_nilD w
  obtain ⟨q, hq⟩ : ∃ q : Int, min n 0 = q := ⟨_, rfl⟩
  have hq0 : ¬ (0 : Int) < q := by omega
  go_enter Try.func21, Try.ntmps21
  go_wp2_with fail
  with_reducible refine C.mono ?_
  rintro e w' ⟨rfl, rfl⟩
  clear C
  go_wp2
  clear hq
  go_loop [5, 12] (fun d i => d = .slice none 0 0 ∧ i = .int .i64 0) (fun _ _ => 0)
  case atStart => exact ⟨rfl, rfl⟩
  case round =>
    obtain ⟨rfl, rfl⟩ := hrel
    go_wp2
    go_ret
    exact ⟨rfl, rfl⟩
set_option maxHeartbeats 4000000 in
theorem evict_any (n : Int) (w : World) {F : Nat → Prop} {db : Nat} {k : Bool} {m : List En} {most : Int} (hl : m.length ≤ 1000) (h : De w F db k m most) : Calls Try.prog 21 #[.pointer (some ⟨db, 0, none⟩), .int .i64 n] w (EvictOk F db k m most (min n (m.length : Int)).toNat w) := by
  obtain ⟨i0, hi, hz0, hz1, hz2⟩ := info_parts' infoE
  have C := h.len
  have HH := Lib.hid h
  obtain ⟨q, hq⟩ : ∃ q : Int, min n (m.length : Int) = q := ⟨_, rfl⟩
  have HQ := Lib.hid hq
  have hqc : q.toNat ≤ m.length := by omega
  have hql : q.toNat ≤ 1000 := by omega
  have HL := Lib.hid hl
  have HQC := Lib.hid hqc
  unfold EvictOk
  rw [hq]
  clear h hl hqc
  go_enter Try.func21, Try.ntmps21
  go_wp2_with fail
  with_reducible refine C.mono ?_
  rintro e w' ⟨rfl, rfl⟩
  clear C
  go_wp2
  clear hq
  go_loopw [5, 12] (fun d i wr => ∃ j : Nat, j ≤ q.toNat ∧ i = .int .i64 (j : Int) ∧ wr.ownsRow w.heap.size 32 4 d j (flatE (evO m j)) ∧ De wr F db k (evL m j) most ∧ Kept F w wr) (fun _ i _ => q.toNat - (intOf i).toNat)
  case atStart => exact ⟨0, by omega, rfl, World.ownsRow_nil _ _ _ _, by rw [evL_zero]; exact HH.out, Kept.refl _ _⟩
  case round =>
    obtain ⟨j, hj, rfl, hown, hde, hke⟩ := hrel
    by_cases hlt : j < q.toNat
    · have c02 : (j : Int) < q := by omega
      have P := popMaxD wr (by rw [evL_length]; have := HL.out; omega) hde
      have hjm : j < m.length := by have := HQC.out; omega
      have HX := Lib.hid (evO_succ hjm)
      have hpos : decide (0 < (evL m j).length) = true := decide_eq_true (by rw [evL_length]; omega)
      unfold AskP at P
      rw [hpos, evL_succ] at P
      obtain ⟨x, hx⟩ : ∃ x, hdE true (evL m j) = x := ⟨_, rfl⟩
      rw [hx] at P HX
      have HOW := Lib.hid hown
      have HKE := Lib.hid hke
      have HDE := Lib.hid hde
      clear hx hpos hown hke hde hjm
      unfold entV at P
      go_wp2_with fail
      with_reducible refine P.mono ?_
      rintro e w1 ⟨rfl, hd1, hk1⟩
      have HO1 := Lib.hid (row_keptF HOW.out hk1 (fun q hq f => by have := HH.out.lt _ f; have := (HOW.out.lt q hq).1; omega))
      have HD1 := Lib.hid hd1
      have HK1 := Lib.hid (HKE.out.trans hk1 (fun _ _ f => f))
      clear hd1 hk1 HOW HKE HDE P
      have BB : Below w1.heap.size w1 ((w1.alloc (.cells #[.int .i64 x.b, .int .i64 x.d, .int .i64 x.s, .int .i64 x.i] 32)).alloc (.cells #[.int .i64 x.b, .int .i64 x.d, .int .i64 x.s, .int .i64 x.i] 32)) := ((Below.refl _ _).alloc (Nat.le_refl _) _).alloc (by simp) _
      have HO2 := Lib.hid (own_kept HO1.out BB)
      have HD2 := Lib.hid (HD1.out.next BB)
      have HK2 := Lib.hid (HK1.out.next BB)
      have hsz := HK1.out.size
      have HNW : Hid (((w1.alloc (.cells #[.int .i64 x.b, .int .i64 x.d, .int .i64 x.s, .int .i64 x.i] 32)).alloc (.cells #[.int .i64 x.b, .int .i64 x.d, .int .i64 x.s, .int .i64 x.i] 32)).heap[w1.heap.size + 1]? = some (.cells #[.int .i64 x.b, .int .i64 x.d, .int .i64 x.s, .int .i64 x.i] 32 (0, 0))) := by
        have := heap_alloc_new (w1.alloc (.cells #[.int .i64 x.b, .int .i64 x.d, .int .i64 x.s, .int .i64 x.i] 32)) (.cells #[.int .i64 x.b, .int .i64 x.d, .int .i64 x.s, .int .i64 x.i] 32)
        rw [World.size_alloc] at this
        exact this
      clear BB HO1 HD1 HK1
      go_wp2_with (at_builtin; refine wpList_append_lies _ rfl _ _ 25 rfl w.heap.size 32 i0 (.agg #[.int .i64 0, .int .i64 0, .int .i64 0, .int .i64 0]) 4 32 Try.underlying25 hi hz0 hz1 hz2 rfl (by decide) _ _ _ rfl HO2.out ⟨w1.heap.size + 1, 0, none⟩ 1 1 (encE x) rfl rfl ?c1 ?c2 ?c3 ?c4 ?c5 ?c6 (w1.heap.size + 2) ?c7 ?_)
      case c1 => exact World.news_of_block (cs := #[.int .i64 x.b, .int .i64 x.d, .int .i64 x.s, .int .i64 x.i]) HNW.out
      case c2 => intro u hu; simp [encE] at hu; rcases hu with rfl | rfl | rfl | rfl <;> rfl
      case c3 => omega
      case c4 => unfold maxLen; omega
      case c5 => omega
      case c6 => simp; omega
      case c7 => simp
      · intro g1 cap1 w2 hown1 hgrow _ hlt1
        have hr : ∀ q, u5.ownBlock = some q → w.heap.size ≤ q := fun q hq => (HO2.out.lt q hq).1
        have O2 : Hid (w2.ownsRow w.heap.size 32 4 (.slice (some ⟨g1, 0, none⟩) (j + 1) cap1) (j + 1) (flatE (evO m (j + 1)))) := by
          show World.ownsRow _ _ _ _ _ _ _
          rw [HX.out, flatE_append, flatE_cons, flatE_nil, List.append_nil]
          exact hown1
        have D2 := Lib.hid (HD2.out.grown hgrow (fun q e f => by have := HH.out.lt _ f; have := hr q e; omega))
        have K2 := Lib.hid (HK2.out.grown hgrow (fun q e => .inr (hr q e)))
        clear hown1 hgrow hlt1 hr HO2 HD2 HK2 HNW hsz
        go_wp2
        go_roundw
        case rel => exact ⟨j + 1, by omega, by go_num, O2.out, D2.out, K2.out⟩
        case measure => simp [intOf]; omega
    · obtain rfl : j = q.toNat := by omega
      have HOW := Lib.hid hown
      have HKE := Lib.hid hke
      have HDE := Lib.hid hde
      have c02 : ¬ (((q.toNat : Nat) : Int) < q) := by omega
      clear hown hke hde
      go_wp2
      go_ret
      exact ⟨_, rfl, HOW.out, HDE.out, HKE.out⟩
end Go.Proofs.Ytiighhcilgjebaa
