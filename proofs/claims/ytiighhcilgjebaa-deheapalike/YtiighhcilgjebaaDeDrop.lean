/-
  What Drop of a heap of either kind does (layer 7).
-/
import Derived.Test.YtiighhcilgjebaaDeMoves
namespace Go.Proofs.Ytiighhcilgjebaa
set_option maxRecDepth 100000
open Go.RowKit Go.Sort

theorem rev_own {w : World} {B n : Nat} {v : Value} {l : List En} (hn : l.length = n) (hl : n ≤ 1000) (h : w.ownsRow B 32 4 v n (flatE l)) : Calls Try.prog 34 #[v] w fun e w' => e = .returned (.tuple #[]) ∧ w'.ownsRow B 32 4 v n (flatE l.reverse) ∧ w.grownBy w' v.ownBlock := by
  by_cases h0 : 0 < n
  · obtain ⟨g, c, rfl, _, _⟩ := h.form h0
    exact rev_some l B g c n hn h0 hl w h
  · obtain rfl : n = 0 := by omega
    obtain rfl : l = [] := List.eq_nil_of_length_eq_zero hn
    have hv : ∃ p c, v = .slice p 0 c := by
      rcases h.2 with ⟨rfl, _⟩ | ⟨g, cap, cur, rfl, _⟩
      · exact ⟨none, 0, rfl⟩
      · exact ⟨_, _, rfl⟩
    obtain ⟨p, c, rfl⟩ := hv
    refine (rev_none p c w).mono ?_
    rintro e w' ⟨rfl, rfl⟩
    exact ⟨rfl, h, grown_refl _ _⟩
/-- A slice's length. -/
def sln : Value → Nat
  | .slice _ n _ => n
  | _ => 0
/-- What Drop answers and leaves. -/
def DropOk (F : Nat → Prop) (db : Nat) (k : Bool) (m : List En) (most : Int) (c : Nat) (w : World) (e : Ending) (w' : World) : Prop :=
  ∃ v, e = .returned v ∧ w'.ownsRow w.heap.size 32 4 v c (flatE (evO m c).reverse) ∧ De w' F db k (evL m c) most ∧ Kept F w w'
/-- A round of Drop: the variable x at xb, those that are gone in d. -/
structure DropSt (w : World) (F : Nat → Prop) (db : Nat) (k : Bool) (m : List En) (most : Int) (j xb : Nat) (d : Value) (x : En) (wr : World) : Prop where
  mk ::
  own : wr.ownsRow w.heap.size 32 4 d j (flatE (evO m j))
  de : De wr F db k (evL m j) most
  ke : Kept F w wr
  x_ : wr.heap[xb]? = some (.cells #[.int .i64 x.b, .int .i64 x.d, .int .i64 x.s, .int .i64 x.i] 32 (0, 0))
  xb_ : w.heap.size ≤ xb
  ne : d.ownBlock ≠ some xb
set_option maxHeartbeats 8000000 in
theorem drop_any (b : Int) (w : World) {F : Nat → Prop} {db : Nat} {k : Bool} {m : List En} {most : Int} (hl : m.length ≤ 1000) (h : De w F db k m most) : Calls Try.prog 22 #[.pointer (some ⟨db, 0, none⟩), .int .i64 b] w (DropOk F db k m most (cutN m b) w) := by
  obtain ⟨i0, hi, hz0, hz1, hz2⟩ := info_parts' infoE
  have C := maxD w hl h
  obtain ⟨x0, hx0⟩ : ∃ x, hdE true m = x := ⟨_, rfl⟩
  obtain ⟨ok0, hok0⟩ : ∃ o, decide (0 < m.length) = o := ⟨_, rfl⟩
  unfold AskT at C
  rw [hx0, hok0] at C
  have HX0 := Lib.hid hx0
  have HOK0 := Lib.hid hok0
  have HH := Lib.hid h
  have HL := Lib.hid hl
  unfold DropOk
  obtain ⟨cn, hcn⟩ : ∃ c, cutN m b = c := ⟨_, rfl⟩
  rw [hcn]
  have HCN := Lib.hid hcn
  have hcl : cn ≤ m.length := by rw [← hcn]; exact cutN_le m b
  have HCL := Lib.hid hcl
  clear h hl hx0 hok0 hcn hcl
  unfold entV at C
  go_enter Try.func22, Try.ntmps22
  go_wp2_with fail
  with_reducible refine C.mono ?_
  rintro e w1 ⟨rfl, be1⟩
  have ST : Hid (DropSt w F db k m most 0 w1.heap.size (.slice none 0 0) x0 (w1.alloc (.cells #[.int .i64 x0.b, .int .i64 x0.d, .int .i64 x0.s, .int .i64 x0.i] 32))) := by
    have B1 := be1.alloc be1.size (.cells #[.int .i64 x0.b, .int .i64 x0.d, .int .i64 x0.s, .int .i64 x0.i] 32)
    exact ⟨World.ownsRow_nil _ _ _ _, by rw [evL_zero]; exact HH.out.next B1, Kept.of B1, heap_alloc_new _ _, be1.size, by simp [Value.ownBlock]⟩
  clear be1 C
  go_wp2
  go_loopw [5, 6, 7] (fun d p o wr => ∃ j xb x, j ≤ cn ∧ p = .pointer (some ⟨xb, 0, none⟩) ∧ o = .bool (decide (0 < (evL m j).length)) ∧ hdE true (evL m j) = x ∧ DropSt w F db k m most j xb d x wr) (fun d _ _ _ => cn - sln d)
  case atStart => exact ⟨0, _, x0, Nat.zero_le _, rfl, by rw [evL_zero, HOK0.out], by rw [evL_zero]; exact HX0.out, ST.out⟩
  case round =>
    obtain ⟨j, xb, x, hj, rfl, rfl, hx, st⟩ := hrel
    obtain ⟨p, c, rfl⟩ : ∃ p c, u5 = .slice p j c := by
      rcases st.own.2 with ⟨rfl, h0⟩ | ⟨g, cap, cur, rfl, _⟩
      · exact ⟨none, 0, by rw [h0]⟩
      · exact ⟨_, _, rfl⟩
    have HST := Lib.hid st
    have ⟨c0, c1, c2, c3, f0, f1, f2, f3, hxl⟩ := cells4 st.x_
    have HJ := Lib.hid hj
    by_cases hlt : j < cn
    · have hjm : j < m.length := by have := HCL.out; omega
      have hpos : decide (0 < (evL m j).length) = true := decide_eq_true (by rw [evL_length]; omega)
      have hxb : b ≤ x.b := by rw [← hx]; exact (cutN_at hjm (by rw [HCN.out]; exact hj)).2 (by rw [HCN.out]; exact hlt)
      have HX := Lib.hid (evO_succ hjm)
      rw [hx] at HX
      rw [hpos]
      have hjl : j < 1000 := by have := HL.out; omega
      have BB : Below wr.heap.size wr (wr.alloc (.cells #[.int .i64 x.b, .int .i64 x.d, .int .i64 x.s, .int .i64 x.i] 32)) := (Below.refl _ _).alloc (Nat.le_refl _) _
      have HO2 := Lib.hid (own_kept st.own BB)
      have HD2 := Lib.hid (st.de.next BB)
      have HK2 := Lib.hid (st.ke.next BB)
      have hsz := st.ke.size
      have HNW := Lib.hid (heap_alloc_new wr (.cells #[.int .i64 x.b, .int .i64 x.d, .int .i64 x.s, .int .i64 x.i] 32))
      have HXB := Lib.hid ((BB.block _ hxl).trans st.x_)
      clear BB st hx hpos hj hjm
      go_wp2_with (at_builtin; refine wpList_append_lies _ rfl _ _ 25 rfl w.heap.size 32 i0 (.agg #[.int .i64 0, .int .i64 0, .int .i64 0, .int .i64 0]) 4 32 Try.underlying25 hi hz0 hz1 hz2 rfl (by decide) _ _ _ rfl HO2.out ⟨wr.heap.size, 0, none⟩ 1 1 (encE x) rfl rfl ?c1 ?c2 ?c3 ?c4 ?c5 ?c6 (wr.heap.size + 1) ?c7 ?_)
      case c1 => exact World.news_of_block (cs := #[.int .i64 x.b, .int .i64 x.d, .int .i64 x.s, .int .i64 x.i]) HNW.out
      case c2 => intro u hu; simp [encE] at hu; rcases hu with rfl | rfl | rfl | rfl <;> rfl
      case c3 => omega
      case c4 => unfold maxLen; omega
      case c5 => omega
      case c6 => simp; omega
      case c7 => simp
      · intro g1 cap1 w2 hown1 hgrow hg1 hlt1
        have hr : ∀ q, (Value.slice p j c).ownBlock = some q → w.heap.size ≤ q := fun q hq => (HO2.out.lt q hq).1
        have hxg : (Value.slice p j c).ownBlock ≠ some xb := HST.out.ne
        have hxl2 : xb < (wr.alloc (.cells #[.int .i64 x.b, .int .i64 x.d, .int .i64 x.s, .int .i64 x.i] 32)).heap.size := (Array.getElem?_eq_some_iff.1 HXB.out).1
        have O2 : Hid (w2.ownsRow w.heap.size 32 4 (.slice (some ⟨g1, 0, none⟩) (j + 1) cap1) (j + 1) (flatE (evO m (j + 1)))) := by
          show World.ownsRow _ _ _ _ _ _ _
          rw [HX.out, flatE_append, flatE_cons, flatE_nil, List.append_nil]
          exact hown1
        have D2 := HD2.out.grown hgrow (fun q e f => by have := HH.out.lt _ f; have := hr q e; omega)
        have K2 := Lib.hid (HK2.out.grown hgrow (fun q e => .inr (hr q e)))
        have X2 := Lib.hid ((hgrow.block xb hxl2 (fun e => hxg e.symm)).trans HXB.out)
        have G1 : Hid (g1 ≠ xb ∧ w.heap.size ≤ g1 ∧ g1 < w2.heap.size) := by
          refine ⟨?_, (O2.out.lt g1 rfl).1, hlt1⟩
          rintro rfl
          rcases hg1 with hg1 | hg1
          · exact hxg hg1
          · simp at hxl2; omega
        have P := popMaxD w2 (by rw [evL_length]; have := HL.out; omega) D2
        unfold AskP at P
        rw [evL_succ] at P
        unfold entV at P
        clear hown1 hgrow hlt1 hr HO2 HD2 HK2 HNW hsz hxg hxl2 hg1 D2 HXB c0 c1 c2 c3 f0 f1 f2 f3 hxl
        go_wp2_with fail
        with_reducible refine P.mono ?_
        rintro e w3 ⟨rfl, hd3, hk3⟩
        have hF : ∀ q, w.heap.size ≤ q → ¬ F q := fun q h1 h2 => by have := HH.out.lt q h2; omega
        have HXL := Lib.hid HST.out.xb_
        have O3 := row_keptF O2.out hk3 (fun q hq => hF q (O2.out.lt q hq).1)
        have X3 := (hk3.block xb (Array.getElem?_eq_some_iff.1 X2.out).1 (hF xb HXL.out)).trans X2.out
        have hs3 := hk3.size
        have B3 : Below w3.heap.size w3 (w3.alloc (.cells #[.int .i64 x.b, .int .i64 x.d, .int .i64 x.s, .int .i64 x.i] 32)) := (Below.refl _ _).alloc (Nat.le_refl _) _
        have HO4 := Lib.hid (own_kept O3 B3)
        have D4 := hd3.next B3
        have HD4 := Lib.hid D4
        have HK4 := Lib.hid ((K2.out.trans hk3 (fun _ _ f => f)).next B3)
        have HN4 := Lib.hid (heap_alloc_new w3 (.cells #[.int .i64 x.b, .int .i64 x.d, .int .i64 x.s, .int .i64 x.i] 32))
        have ⟨c0, c1, c2, c3, _⟩ := cells4 X3
        have HG3 : Hid (g1 < w3.heap.size ∧ w.heap.size ≤ w3.heap.size) := ⟨by have := G1.out; omega, by have := K2.out.size; omega⟩
        have C := maxD (w3.alloc (.cells #[.int .i64 x.b, .int .i64 x.d, .int .i64 x.s, .int .i64 x.i] 32)) (by rw [evL_length]; have := HL.out; omega) D4
        obtain ⟨x', hx'⟩ : ∃ x', hdE true (evL m (j + 1)) = x' := ⟨_, rfl⟩
        unfold AskT at C
        rw [hx'] at C
        unfold entV at C
        have HX' := Lib.hid hx'
        obtain ⟨ok', hok'⟩ : ∃ o, decide (0 < (evL m (j + 1)).length) = o := ⟨_, rfl⟩
        rw [hok'] at C
        have HOK' := Lib.hid hok'
        clear hd3 hk3 hF O3 X3 hs3 B3 D4 hx' hok' O2 K2 X2 P G1
        go_wp2_with fail
        with_reducible refine C.mono ?_
        rintro e w5 ⟨rfl, be5⟩
        have h5s := be5.size
        have h4s : w3.heap.size < (w3.alloc (.cells #[.int .i64 x.b, .int .i64 x.d, .int .i64 x.s, .int .i64 x.i] 32)).heap.size := by simp
        have N5 := (be5.block _ h4s).trans HN4.out
        have ⟨r0, r1, r2, r3, p0, p1, p2, p3, _⟩ := cells4 N5
        have E : Hid (DropSt w F db k m most (j + 1) w3.heap.size (.slice (some ⟨g1, 0, none⟩) (j + 1) cap1) x' ((((w5.setCell ⟨w3.heap.size, 0, none⟩ (.int .i64 x'.b)).setCell ⟨w3.heap.size, 1, none⟩ (.int .i64 x'.d)).setCell ⟨w3.heap.size, 2, none⟩ (.int .i64 x'.s)).setCell ⟨w3.heap.size, 3, none⟩ (.int .i64 x'.i))) := by
          have K5 := HK4.out.next be5
          have hg3 := HG3.out
          have kk := (Kept.refl (fun b => b = w3.heap.size) w5).set40 (b := w3.heap.size) (Or.inl rfl) (.int .i64 x'.b) (.int .i64 x'.d) (.int .i64 x'.s) (.int .i64 x'.i)
          refine ⟨row_keptF (own_kept HO4.out be5) kk (fun q hq => ?_), (HD4.out.next be5).kept kk (fun b f e => ?_), K5.set40 (.inr hg3.2) _ _ _ _, set4 N5, hg3.2, ?_⟩
          · simp [Value.ownBlock] at hq
            omega
          · have := HH.out.lt b f
            have e' : b = w3.heap.size := e
            omega
          · simp [Value.ownBlock]
            omega
        clear be5 C N5 HO4 HD4 HK4 HN4 HG3 h5s h4s c0 c1 c2 c3
        go_wp2
        go_roundw
        case rel => exact ⟨j + 1, _, x', by omega, rfl, by rw [HOK'.out], HX'.out, E.out⟩
        case measure => simp [sln]; omega
    · obtain rfl : j = cn := by omega
      have RV := rev_own (evO_le HCL.out) (by have := HL.out; have := HCL.out; omega) st.own
      have HR : Hid (∀ q, (Value.slice p j c).ownBlock = some q → w.heap.size ≤ q) := fun q hq => (st.own.lt q hq).1
      have fin : Hid (∀ w', w'.ownsRow w.heap.size 32 4 (.slice p j c) j (flatE (evO m j).reverse) → wr.grownBy w' (Value.slice p j c).ownBlock → De w' F db k (evL m j) most ∧ Kept F w w') := fun w' _ hg =>
        ⟨HST.out.de.grown hg (fun q e f => by have := HH.out.lt _ f; have := HR.out q e; omega), HST.out.ke.grown hg (fun q e => .inr (HR.out q e))⟩
      by_cases hz : 0 < (evL m j).length
      · have hxb : ¬ b ≤ x.b := by
          rw [← hx]
          intro hb
          have := (cutN_at (b := b) (j := j) (by rw [evL_length] at hz; omega) (by rw [HCN.out]; exact Nat.le_refl _)).1 hb
          rw [HCN.out] at this
          omega
        rw [decide_eq_true hz]
        clear st hx hj hlt hz HX0 HOK0
        go_wp2_with fail
        with_reducible refine RV.mono ?_
        rintro e w2 ⟨rfl, ho, hg⟩
        have HO := Lib.hid ho
        have HF := Lib.hid (fin.out w2 ho hg)
        clear ho hg RV c0 c1 c2 c3 f0 f1 f2 f3 hxl
        go_wp2
        go_ret
        exact ⟨_, rfl, HO.out, HF.out.1, HF.out.2⟩
      · rw [decide_eq_false hz]
        clear st hx hj hlt hz HX0 HOK0
        go_wp2_with fail
        with_reducible refine RV.mono ?_
        rintro e w2 ⟨rfl, ho, hg⟩
        have HO := Lib.hid ho
        have HF := Lib.hid (fin.out w2 ho hg)
        clear ho hg RV c0 c1 c2 c3 f0 f1 f2 f3 hxl
        go_wp2
        go_ret
        exact ⟨_, rfl, HO.out, HF.out.1, HF.out.2⟩
end Go.Proofs.Ytiighhcilgjebaa
