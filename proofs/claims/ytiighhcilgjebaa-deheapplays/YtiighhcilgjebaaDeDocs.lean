/-
  What the laws' own words of layer 7 do with the document's list: cut parts it at the first bound that is no less, last takes its last ones.
-/
import Derived.Test.YtiighhcilgjebaaDeSame
import Derived.Test.YtiighhcilgjebaaRefPush
namespace Go.Proofs.Ytiighhcilgjebaa
set_option maxRecDepth 100000
open Go.RowKit Go.Sort

theorem DocL.take {w : World} {p : Option Addr} {n c : Nat} {l : List En} (h : DocL w (.slice p n c) l) (i : Nat) (hi : i ≤ l.length) : DocL w (.slice p i c) (l.take i) := by
  obtain ⟨p', c', e, hc, h3⟩ := h.at_
  simp only [Value.slice.injEq] at e
  obtain ⟨rfl, rfl, rfl⟩ := e
  have hl : (l.take i).length = i := by simp; omega
  refine ⟨p, c, by rw [hl], by omega, fun h0 => ?_⟩
  obtain ⟨b, off, q1, q2, q3⟩ := h3 (by omega)
  refine ⟨b, off, q1, q2, fun j hj => ?_⟩
  rw [nth_tk hj]
  exact q3 j (by omega)
theorem DocL.drop {w : World} {b off n c : Nat} {l : List En} (h : DocL w (.slice (some ⟨b, off, none⟩) n c) l) (i : Nat) (hi : i ≤ l.length) : DocL w (.slice (some ⟨b, off + i * 4, none⟩) (n - i) (c - i)) (l.drop i) := by
  obtain ⟨p', c', e, hc, h3⟩ := h.at_
  simp only [Value.slice.injEq] at e
  obtain ⟨rfl, rfl, rfl⟩ := e
  have hl : (l.drop i).length = l.length - i := by simp
  refine ⟨_, _, by rw [hl], by omega, fun h0 => ?_⟩
  obtain ⟨b', off', q1, q2, q3⟩ := h3 (by omega)
  simp only [Option.some.injEq, Addr.mk.injEq, and_true] at q1
  obtain ⟨rfl, rfl⟩ := q1
  refine ⟨b, off + i * 4, rfl, q2, fun j hj => ?_⟩
  have e : nth (l.drop i) j = nth l (i + j) := by
    rw [nth_get hj, nth_get (by omega)]
    simp
  have := q3 (i + j) (by omega)
  rw [e, show off + i * 4 + j * 4 = off + (i + j) * 4 by omega]
  exact this
/-- What cut answers. -/
def CutOk (u : Value) (l1 l2 : List En) (w : World) (e : Ending) (w' : World) : Prop :=
  ∃ v1 v2, e = .returned (.tuple #[v1, v2]) ∧ DocL w' v1 l1 ∧ DocL w' v2 l2 ∧ Below w.heap.size w w' ∧ (∀ q, v1.ownBlock = some q → u.ownBlock = some q) ∧ ∀ q, v2.ownBlock = some q → u.ownBlock = some q
set_option maxHeartbeats 8000000 in
theorem cut_any (m : List En) (b : Int) (hl : m.length ≤ 1000) (hs : Srt m) (u : Value) (w : World) (h : DocL w u m) :
    Calls Try.prog 31 #[u, .int .i64 b] w (CutOk u (evL m (cutN m b)) (evO m (cutN m b)).reverse w) := by
  obtain ⟨p, c, rfl⟩ := doc_slice h
  have hcl : m.length ≤ c := by
    obtain ⟨p', c', e, hc, _⟩ := h.at_
    simp only [Value.slice.injEq, true_and] at e
    omega
  have HLO := Lib.hid fun j h => cut_lo (m := m) (b := b) (j := j) hs h
  have HHI := Lib.hid fun h => cut_hi (m := m) (b := b) (j := 0) h
  have HEV := Lib.hid (evL_length m (cutN m b))
  have HCL := Lib.hid (cutN_le m b)
  have HE1 : Hid (evL m (cutN m b) = m.take (m.length - cutN m b)) := Lib.hid rfl
  have HE2 := Lib.hid (evO_rev m (cutN m b))
  have HNT := Lib.hid fun i h => nth_evL (m := m) (c := cutN m b) (i := i) h
  have HND := Lib.hid fun (h : 0 < cutN m b) => nth_evR (m := m) (c := cutN m b) (j := 0) (cutN_le m b) h
  unfold CutOk
  generalize cutN m b = k at *
  obtain ⟨n, en⟩ : ∃ n, m.length = n := ⟨_, rfl⟩
  have HN := Lib.hid en
  obtain ⟨i0, hi0⟩ : ∃ i, n - k = i := ⟨_, rfl⟩
  have hik : i0 + k = n := by have := HCL.out; omega
  have HI0 := Lib.hid hi0
  rw [en] at h hl hcl ⊢
  have HD := Lib.hid h
  clear h en hi0
  go_enter Try.func31, Try.ntmps31
  go_wp2
  go_loopw [10] (fun i wr => ∃ j : Nat, j ≤ i0 ∧ i = .int .i64 (j : Int) ∧ Below w.heap.size w wr) (fun i _ => n - (intOf i).toNat)
  case atStart => exact ⟨0, by omega, rfl, Below.refl _ _⟩
  case round =>
    obtain ⟨j, hj, rfl, hb⟩ := hrel
    have HB := Lib.hid hb
    clear hb
    obtain ⟨w1, hw1⟩ : ∃ q, q = wr := ⟨wr, rfl⟩
    subst hw1
    by_cases hjn : j < n
    · obtain ⟨g, off, rfl, hg, c0, c1, c2, c3⟩ := doc_at (HD.out.next HB.out) HN.out hjn
      have c01 : (0 : Int) ≤ (j : Int) := by omega
      have c02 : (j : Int) < (n : Int) := by omega
      have HB2 := Lib.hid (HB.out.alloc HB.out.size (.cells #[.int .i64 (nth m j).b, .int .i64 (nth m j).d, .int .i64 (nth m j).s, .int .i64 (nth m j).i] 35))
      by_cases hlt : j < i0
      · have hx : ¬ b ≤ (nth m j).b := by
          have q := HLO.out j (by rw [HEV.out, HN.out]; omega)
          rw [HNT.out j (by rw [HEV.out, HN.out]; omega)] at q
          omega
        generalize nth m j = x at *
        clear HB
        go_wp2
        go_roundw
        case rel => exact ⟨j + 1, by omega, by go_num, HB2.out⟩
        case measure => simp [intOf]; omega
      · obtain rfl : j = i0 := by omega
        have hx : b ≤ (nth m j).b := by
          have q := HHI.out (by omega)
          rw [HND.out (by omega)] at q
          rw [HN.out, show n - k + 0 = j by omega] at q
          exact q
        have FD := HD.out.next HB2.out
        have E1 : Hid (DocL (w1.alloc (.cells #[.int .i64 (nth m j).b, .int .i64 (nth m j).d, .int .i64 (nth m j).s, .int .i64 (nth m j).i] 35)) (.slice (some ⟨g, off, none⟩) j c) (evL m k)) := by
          rw [HE1.out, HN.out, show n - k = j by omega]
          exact FD.take j (by rw [HN.out]; omega)
        have E2 : Hid (DocL (w1.alloc (.cells #[.int .i64 (nth m j).b, .int .i64 (nth m j).d, .int .i64 (nth m j).s, .int .i64 (nth m j).i] 35)) (.slice (some ⟨g, off + j * 4, none⟩) (n - j) (c - j)) (evO m k).reverse) := by
          rw [HE2.out, HN.out, show n - k = j by omega]
          exact FD.drop j (by rw [HN.out]; omega)
        generalize nth m j = x at *
        have hne : ¬ c = j := by omega
        have hjc : (j : Int) ≤ (c : Int) := by omega
        have hnc : (n : Int) ≤ (c : Int) := by omega
        have hjn' : (j : Int) ≤ (n : Int) := by omega
        clear HB FD
        go_wp2
        go_quiet (fail)
        have E1' := Lib.hid (E1.out.next (below_drewN _ nq))
        have E2' := Lib.hid (E2.out.next (below_drewN _ nq))
        have E3 := Lib.hid (HB2.out.trans ((below_drewN _ nq).mono HB2.out.size))
        clear E1 E2 HB2
        go_wp2
        go_ret2
        exact ⟨_, _, rfl, E1'.out, E2'.out, E3.out, fun q hq => hq, fun q hq => hq⟩
    · obtain rfl : j = n := by omega
      obtain rfl : k = 0 := by omega
      have nl : ¬ ((j : Int) < (j : Int)) := by omega
      have E1 : Hid (DocL w1 (.slice p j c) (evL m 0)) := by
        rw [evL_zero]
        exact HD.out.next HB.out
      have E2 : Hid (DocL w1 (.slice none 0 0) (evO m 0).reverse) := DocL.nil w1
      go_wp2
      go_ret2
      exact ⟨_, _, rfl, E1.out, E2.out, HB.out, fun q hq => hq, fun q hq => by cases hq⟩
theorem DocL.keptG {w w' : World} {g off n c : Nat} {l : List En} (h : DocL w (.slice (some ⟨g, off, none⟩) n c) l) (e : w'.heap[g]? = w.heap[g]?) : DocL w' (.slice (some ⟨g, off, none⟩) n c) l := by
  obtain ⟨p, c', h1, h2, h3⟩ := h.at_
  refine ⟨p, c', h1, h2, fun h0 => ?_⟩
  obtain ⟨b, off', q1, ⟨cur, f, q2⟩, q3⟩ := h3 h0
  have hb : b = g := by
    simp only [Value.slice.injEq] at h1
    rw [← h1.1] at q1
    simp only [Option.some.injEq, Addr.mk.injEq, and_true] at q1
    exact q1.1.symm
  subst hb
  refine ⟨b, off', q1, ⟨cur, f, by rw [e]; exact q2⟩, fun i hi => ?_⟩
  have c : ∀ o, w'.cell? ⟨b, o, none⟩ = w.cell? ⟨b, o, none⟩ := fun o => World.cell?_of_block (by exact e)
  rw [c, c, c, c]
  exact q3 i hi
/-- What last answers. -/
def LastOk (u : Value) (l1 l2 : List En) (w : World) (e : Ending) (w' : World) : Prop :=
  ∃ v1 v2, e = .returned (.tuple #[v1, v2]) ∧ DocL w' v1 l1 ∧ DocL w' v2 l2 ∧ Below w.heap.size w w' ∧ (∀ q, v1.ownBlock = some q → u.ownBlock = some q) ∧ ∀ q, v2.ownBlock = some q → w.heap.size ≤ q
/-- A round of last. -/
structure LastSt (w : World) (p : Option Addr) (n c : Nat) (m : List En) (j : Nat) (d : Value) (wr : World) : Prop where
  mk ::
  doc : DocL wr (.slice p n c) m
  own : wr.ownsRow w.heap.size 35 4 d j (flatE (evO m j))
  be : Below w.heap.size w wr
set_option maxHeartbeats 8000000 in
theorem lastD_any (m : List En) (nn : Int) (hnx : nn ≤ 1000) (hl : m.length ≤ 1000) (u : Value) (w : World) (h : DocL w u m) :
    Calls Try.prog 30 #[u, .int .i64 nn] w (LastOk u (evL m (min nn (m.length : Int)).toNat) (evO m (min nn (m.length : Int)).toNat) w) := by
  obtain ⟨p, c, rfl⟩ := doc_slice h
  obtain ⟨i0, hi, hz0, hz1, hz2⟩ := info_parts' infoD
  have hcl : m.length ≤ c := by
    obtain ⟨p', c', e, hc, _⟩ := h.at_
    simp only [Value.slice.injEq, true_and] at e
    omega
  obtain ⟨k, ek⟩ : ∃ k, (min nn (m.length : Int)).toNat = k := ⟨_, rfl⟩
  have HK := Lib.hid ek
  rw [ek]
  clear ek
  obtain ⟨n, en⟩ : ∃ n, m.length = n := ⟨_, rfl⟩
  have HN := Lib.hid en
  have HK2 : Hid ((min nn (n : Int)).toNat = k) := by rw [← en]; exact HK
  rw [en] at h hl hcl ⊢
  have HD := Lib.hid h
  unfold LastOk
  clear h en HK
  go_enter Try.func30, Try.ntmps30
  go_wp2
  go_loopw [0, 1, 6] (fun v i d wr => ∃ j : Nat, j ≤ k ∧ v = .slice p (n - j) c ∧ i = .int .i64 (nn - (j : Int)) ∧ LastSt w p n c m j d wr) (fun v _ _ _ => sln v)
  case atStart => exact ⟨0, by omega, by simp, by simp, HD.out, World.ownsRow_nil _ _ _ _, Below.refl _ _⟩
  case round =>
    obtain ⟨j, hj, rfl, rfl, st⟩ := hrel
    have HST := Lib.hid st
    clear st
    by_cases hlt : j < k
    · have hjn : j < n := by have := HK2.out; omega
      have hnn : 0 < nn - (j : Int) := by have := HK2.out; omega
      obtain ⟨M, hM⟩ : ∃ M, n - j = M := ⟨_, rfl⟩
      obtain ⟨r, hr⟩ : ∃ r, r + 1 = M := ⟨n - j - 1, by omega⟩
      rw [hM]
      have HM := Lib.hid hM
      have HRM := Lib.hid hr
      obtain ⟨g, off, rfl, hg, c0, c1, c2, c3⟩ := doc_at HST.out.doc HN.out (show r < n by omega)
      have HX : Hid (evO m (j + 1) = evO m j ++ [nth m r]) := by
        show _ = _
        rw [evO_succ (by rw [HN.out]; exact hjn), last_evL (by rw [HN.out]; exact hjn), nth_get (by rw [HN.out]; omega)]
        have e : m.length - 1 - j = r := by rw [HN.out]; omega
        simp only [e]
      generalize nth m r = x at *
      have w1 : IntKind.i64.wrap ((M : Int) - 1) = (r : Int) := by rw [IntKind.wrap_i64]; omega
      have w2 : IntKind.i64.wrap (nn - (j : Int) - 1) = nn - (j : Int) - 1 := by rw [IntKind.wrap_i64]; omega
      have d01 : (0 : Int) ≤ (r : Int) := by omega
      have d02 : (r : Int) < (M : Int) := by omega
      have d03 : (r : Int) ≤ (c : Int) := by omega
      have d05 : (0 : Int) < (M : Int) := by omega
      clear hM hr
      obtain ⟨wq, hwq⟩ : ∃ q, q = wr := ⟨wr, rfl⟩
      subst hwq
      have BB : Below wq.heap.size wq (wq.alloc (.cells #[.int .i64 x.b, .int .i64 x.d, .int .i64 x.s, .int .i64 x.i] 35)).drew := ((Below.refl _ _).alloc (Nat.le_refl _) _).drew
      have O1 : Hid ((wq.alloc (.cells #[.int .i64 x.b, .int .i64 x.d, .int .i64 x.s, .int .i64 x.i] 35)).drew.ownsRow w.heap.size 35 4 u6 j (flatE (evO m j))) := Lib.hid (own_kept HST.out.own BB)
      have D1 := Lib.hid (HST.out.doc.next BB)
      have B1 := Lib.hid (HST.out.be.trans (BB.mono HST.out.be.size))
      have one4 : ∀ u ∈ encE x, u.oneCell' = true := by
        intro u hu; simp [encE] at hu; rcases hu with rfl | rfl | rfl | rfl <;> rfl
      have hsz := HST.out.be.size
      have HNB : Hid ((wq.alloc (.cells #[.int .i64 x.b, .int .i64 x.d, .int .i64 x.s, .int .i64 x.i] 35)).drew.heap[wq.heap.size]? = some (.cells #[.int .i64 x.b, .int .i64 x.d, .int .i64 x.s, .int .i64 x.i] 35 (0, 0))) := Lib.hid (heap_alloc_new wq (.cells #[.int .i64 x.b, .int .i64 x.d, .int .i64 x.s, .int .i64 x.i] 35))
      have hjl : j < 1000 := by omega
      have ⟨n0, n1, n2, n3⟩ : (wq.alloc (.cells #[.int .i64 x.b, .int .i64 x.d, .int .i64 x.s, .int .i64 x.i] 35)).drew.cell? ⟨g, off + r * 4, none⟩ = some (.int .i64 x.b) ∧ (wq.alloc (.cells #[.int .i64 x.b, .int .i64 x.d, .int .i64 x.s, .int .i64 x.i] 35)).drew.cell? ⟨g, off + r * 4 + 1, none⟩ = some (.int .i64 x.d) ∧ (wq.alloc (.cells #[.int .i64 x.b, .int .i64 x.d, .int .i64 x.s, .int .i64 x.i] 35)).drew.cell? ⟨g, off + r * 4 + 2, none⟩ = some (.int .i64 x.s) ∧ (wq.alloc (.cells #[.int .i64 x.b, .int .i64 x.d, .int .i64 x.s, .int .i64 x.i] 35)).drew.cell? ⟨g, off + r * 4 + 3, none⟩ = some (.int .i64 x.i) :=
        ⟨(BB.cell (by exact hg)).trans c0, (BB.cell (by exact hg)).trans c1, (BB.cell (by exact hg)).trans c2, (BB.cell (by exact hg)).trans c3⟩
      have hg0 : g < w.heap.size := by
        obtain ⟨g', off', e, hg', _⟩ := doc_at HD.out HN.out (show 0 < n by omega)
        simp only [Option.some.injEq, Addr.mk.injEq, and_true] at e
        rw [e.1]
        exact hg'
      clear BB
      go_wp2
      go_region_held3 (fun w' => w'.cell? ⟨g, off + r * 4, none⟩ = some (.int .i64 x.b) ∧ w'.cell? ⟨g, off + r * 4 + 1, none⟩ = some (.int .i64 x.d) ∧ w'.cell? ⟨g, off + r * 4 + 2, none⟩ = some (.int .i64 x.s) ∧ w'.cell? ⟨g, off + r * 4 + 3, none⟩ = some (.int .i64 x.i)) (first | exact ⟨c0, c1, c2, c3⟩ | exact ⟨n0, n1, n2, n3⟩ | exact ⟨a0, a1, a2, a3⟩)
        (first
          | (refine step_append_lies (wq.alloc (.cells #[.int .i64 x.b, .int .i64 x.d, .int .i64 x.s, .int .i64 x.i] 35)).drew rfl (.tmp 14) (.tmp 21) 26 rfl w.heap.size 35 i0 (.agg #[.int .i64 0, .int .i64 0, .int .i64 0, .int .i64 0]) 4 32 Try.underlying26 hi hz0 hz1 hz2 rfl (by decide) u6 j (flatE (evO m j)) rfl O1.out ⟨wq.heap.size, 0, none⟩ 1 1 (encE x) rfl rfl (World.news_of_block HNB.out) one4 (by omega) (by unfold maxLen; omega) (by omega) B1.out.size (wq.alloc (.cells #[.int .i64 x.b, .int .i64 x.d, .int .i64 x.s, .int .i64 x.i] 35)).drew.heap.size rfl ?_; intro g1 cap1 w2 hown1 hgrow hg1 hlt1
             have HG := Lib.hid hgrow
             have HOW := Lib.hid hown1
             have nb : ∀ o, w2.cell? ⟨g, o, none⟩ = (wq.alloc (.cells #[.int .i64 x.b, .int .i64 x.d, .int .i64 x.s, .int .i64 x.i] 35)).drew.cell? ⟨g, o, none⟩ := fun o => World.cell?_of_block (HG.out.block g (by have := B1.out.size; omega) (fun e => by have := (O1.out.lt g e.symm).1; omega))
             have a0 := (nb _).trans n0
             have a1 := (nb _).trans n1
             have a2 := (nb _).trans n2
             have a3 := (nb _).trans n3
             clear hown1 hgrow nb))
      have E : Hid (LastSt w (some ⟨g, off, none⟩) n c m (j + 1) (.slice (some ⟨g1, 0, none⟩) (j + 1) cap1) w2) := by
        refine Lib.hid ⟨D1.out.keptG (HG.out.block g (by have := B1.out.size; omega) (fun e => by have := (O1.out.lt g e.symm).1; omega)), ?_, B1.out.grown HG.out B1.out.size (fun q hq => (O1.out.lt q hq).1)⟩
        rw [HX.out, flatE_append, flatE_cons, flatE_nil, List.append_nil]
        exact HOW.out
      clear HG HOW a0 a1 a2 a3 O1 D1 B1 HNB HX n0 n1 n2 n3 c0 c1 c2 c3
      go_wp2
      go_roundw
      case rel => exact ⟨j + 1, by omega, by have := HM.out; have := HRM.out; congr 1; omega, by congr 1; omega, E.out⟩
      case measure =>
        have := HRM.out
        simp [sln]
        omega
    · obtain rfl : j = k := by omega
      have E1 := Lib.hid (show DocL wr (.slice p (n - j) c) (evL m j) by
        have q := HST.out.doc.take (n - j) (by rw [HN.out]; omega)
        have e : evL m j = m.take (n - j) := by unfold evL; rw [HN.out]
        rw [e]
        exact q)
      have E2 := Lib.hid (docL_own HST.out.own (evO_le (by rw [HN.out]; have := HK2.out; omega)))
      have E3 := Lib.hid HST.out.be
      have E4 := Lib.hid fun q hq => (HST.out.own.lt q hq).1
      obtain ⟨M, hM⟩ : ∃ M, n - j = M := ⟨_, rfl⟩
      rw [hM] at E1 ⊢
      by_cases hp : nn - (j : Int) ≤ 0
      · have hp2 : ¬ (0 : Int) < nn - (j : Int) := by omega
        clear hM
        go_wp2
        go_ret2
        exact ⟨.slice p M c, u6, rfl, E1.out, E2.out, E3.out, (fun q hq => by cases p <;> exact hq), E4.out⟩
      · have hp2 : (0 : Int) < nn - (j : Int) := by omega
        obtain rfl : M = 0 := by have := HK2.out; omega
        clear hM
        go_wp2
        go_ret2
        exact ⟨.slice p 0 c, u6, rfl, E1.out, E2.out, E3.out, (fun q hq => by cases p <;> exact hq), E4.out⟩
end Go.Proofs.Ytiighhcilgjebaa
