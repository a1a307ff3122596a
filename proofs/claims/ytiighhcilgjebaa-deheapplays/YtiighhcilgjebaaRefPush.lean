/-
  What the document's Push does (layer 5): a list in order with one more, in a row of its own.
-/
import Derived.Test.YtiighhcilgjebaaRefHeap
namespace Go.Proofs.Ytiighhcilgjebaa
set_option maxRecDepth 100000
open Go.RowKit Go.Sort

theorem infoD : (Try.prog.info? 35).map (fun i => (i.zero, i.size, i.bytes)) = some (some (.agg #[.int .i64 0, .int .i64 0, .int .i64 0, .int .i64 0]), 4, 32) := by kernel_rfl
/-- What Push has put so far. -/
structure OutSt (w : World) (x : En) (d : Value) (o : List En) (wr : World) : Prop where
  mk ::
  own : wr.ownsRow (w.heap.size + 1) 35 4 d o.length (flatE o)
  box : EBox w.heap.size x wr
  be : Below w.heap.size w wr
theorem OutSt.next {w wr w' : World} {x : En} {d : Value} {o : List En} (h : OutSt w x d o wr) (hb : Below wr.heap.size wr w') : OutSt w x d o w' := by
  refine ⟨h.own.kept (row := none) ⟨hb.os, hb.tape, hb.output, hb.size, fun k hk _ => hb.block k hk⟩ ?_, h.box.next hb, h.be.trans (hb.mono h.be.size)⟩
  cases d.ownBlock with
  | none => exact .inl rfl
  | some q => exact .inr (by simp)
theorem OutSt.app {w wr w1 : World} {x z : En} {d : Value} {o : List En} {g cap : Nat} {ob : Obj} (h : OutSt w x d o wr) (own1 : w1.ownsRow (w.heap.size + 1) 35 4 (.slice (some ⟨g, 0, none⟩) (o.length + 1) cap) (o.length + 1) (flatE o ++ encE z)) (hg : (wr.alloc ob).grownBy w1 d.ownBlock) :
    OutSt w x (.slice (some ⟨g, 0, none⟩) (o ++ [z]).length cap) (o ++ [z]) w1 := by
  have h2 := h.next ((Below.refl wr.heap.size wr).alloc (Nat.le_refl _) ob)
  refine ⟨?_, ?_, h2.be.grown hg h2.be.size (fun q hq => by have := (h2.own.lt q hq).1; omega)⟩
  · rw [flatE_append, flatE_cons, flatE_nil, List.append_nil, List.length_append]
    exact own1
  · have hbx : w1.heap[w.heap.size]? = (wr.alloc ob).heap[w.heap.size]? := hg.block _ h2.box.size (fun hh => by have := (h2.own.lt _ hh.symm).1; omega)
    exact ⟨(World.cell?_of_block hbx).trans h2.box.c0, (World.cell?_of_block hbx).trans h2.box.c1, (World.cell?_of_block hbx).trans h2.box.c2, (World.cell?_of_block hbx).trans h2.box.c3, Nat.lt_of_lt_of_le h2.box.size hg.size⟩
theorem OutSt.ends {w wr : World} {x : En} {d : Value} {o : List En} (h : OutSt w x d o wr) : wr.ownsRow w.heap.size 35 4 d o.length (flatE o) := h.own.mono (by omega)
/-- The entry k of a list of the document's. -/
theorem DocL.get {w w' : World} {v : Value} {l : List En} (h : DocL w v l) (hb : Below w.heap.size w w') : ∃ p c, v = .slice p l.length c ∧ l.length ≤ c ∧ ∀ k, k < l.length → ∃ b off, p = some ⟨b, off, none⟩ ∧ b < w.heap.size ∧ w'.cell? ⟨b, off + k * 4, none⟩ = some (.int .i64 (nth l k).b) ∧ w'.cell? ⟨b, off + k * 4 + 1, none⟩ = some (.int .i64 (nth l k).d) ∧ w'.cell? ⟨b, off + k * 4 + 2, none⟩ = some (.int .i64 (nth l k).s) ∧ w'.cell? ⟨b, off + k * 4 + 3, none⟩ = some (.int .i64 (nth l k).i) := by
  obtain ⟨p, c, h1, h2, h3⟩ := (h.next hb).at_
  obtain ⟨p', c', h1', _, h3'⟩ := h.at_
  refine ⟨p, c, h1, h2, fun k hk => ?_⟩
  obtain ⟨b, off, q1, _, q3⟩ := h3 (by omega)
  obtain ⟨b', off', q1', ⟨cur, f, q2'⟩, _⟩ := h3' (by omega)
  rw [h1] at h1'
  simp at h1'
  rw [← h1'.1, q1] at q1'
  simp at q1'
  refine ⟨b, off, q1, ?_, q3 k hk⟩
  rw [q1'.1]
  exact (Array.getElem?_eq_some_iff.1 q2').1
theorem take_nth {l : List En} {k : Nat} (hk : k < l.length) : l.take (k + 1) = l.take k ++ [nth l k] := by
  rw [List.take_add_one, List.getElem?_eq_getElem hk]
  unfold nth
  simp [hk]
/-- What Push answers. -/
def IsPut (x : En) (l : List En) (w : World) (e : Ending) (w' : World) : Prop :=
  ∃ v, e = .returned v ∧ w'.ownsRow w.heap.size 35 4 v (insE x l).length (flatE (insE x l)) ∧ Below w.heap.size w w'

set_option maxHeartbeats 4000000 in
theorem rpush_any (x : En) (l : List En) (hl : l.length ≤ 100) (v : Value) (w : World) (hD : DocL w v l) :
    Calls Try.prog 8 #[v, entV x] w (IsPut x l w) := by
  obtain ⟨i0, hi, hz0, hz1, hz2⟩ := info_parts' infoD
  have HG := Lib.hid fun w' => hD.get (w' := w')
  obtain ⟨p, c, rfl, hc, -⟩ := hD.get (Below.refl _ _)
  obtain ⟨n, hn⟩ : ∃ n, l.length = n := ⟨_, rfl⟩
  have HN := Lib.hid hn
  unfold IsPut
  have LS := fun y => less5_any x y
  unfold entV at *
  have F0 : Hid (OutSt w x (.slice none 0 0) [] (w.alloc (.cells #[.int .i64 x.b, .int .i64 x.d, .int .i64 x.s, .int .i64 x.i] 35))) := ⟨World.ownsRow_nil _ _ _ _, ebox_new w x.b x.d x.s x.i 35, (Below.refl _ _).alloc (Nat.le_refl _) _⟩
  rw [hn] at hl hc ⊢
  clear hn hD
  go_enter Try.func8, Try.ntmps8
  go_wp2
  go_loopw [5, 6, 7] (fun d pb i wr => ∃ (k : Nat) (b : Bool) (o : List En), k ≤ n ∧ i = .int .i64 k ∧ pb = .bool b ∧ InsSt x (l.take k) b o ∧ OutSt w x d o wr) (fun _ _ i _ => n - (intOf i).toNat)
  case atStart => exact ⟨0, false, [], by omega, rfl, rfl, InsSt.start x, F0.out⟩
  case round =>
    obtain ⟨k, b, o, hk, rfl, rfl, hins, hout⟩ := hrel
    have HI := Lib.hid hins
    have hol : o.length ≤ k + 1 := by
      have ht : (l.take k).length ≤ k := by rw [List.length_take]; omega
      cases b with
      | false => rw [(hins.no rfl).1]; omega
      | true => rw [(hins.yes rfl).1, insE_length]; omega
    clear F0 hins
    by_cases hlt : k < n
    · have htk := Lib.hid (take_nth (l := l) (k := k) (by rw [HN.out]; exact hlt))
      obtain ⟨p', c', hv, _, hcell⟩ := HG.out wr hout.be
      obtain ⟨rfl, rfl⟩ : p = p' ∧ c = c' := by simpa using hv
      obtain ⟨q, off, rfl, hq, _⟩ := hcell k (by rw [HN.out]; exact hlt)
      obtain ⟨y, hy⟩ : ∃ y, nth l k = y := ⟨_, rfl⟩
      have HC : Hid (∀ w', Below w.heap.size w w' → w'.cell? ⟨q, off + k * 4, none⟩ = some (.int .i64 y.b) ∧ w'.cell? ⟨q, off + k * 4 + 1, none⟩ = some (.int .i64 y.d) ∧ w'.cell? ⟨q, off + k * 4 + 2, none⟩ = some (.int .i64 y.s) ∧ w'.cell? ⟨q, off + k * 4 + 3, none⟩ = some (.int .i64 y.i)) := by
        intro w' hb
        obtain ⟨p', c', hv, _, hcell⟩ := HG.out w' hb
        obtain ⟨hp, _⟩ : some ⟨q, off, none⟩ = p' ∧ c = c' := by simpa using hv
        obtain ⟨q', off', hp', _, h2⟩ := hcell k (by rw [HN.out]; exact hlt)
        rw [← hp] at hp'
        simp at hp'
        rw [← hp'.1, ← hp'.2, hy] at h2
        exact h2
      rw [hy] at htk
      have LS1 := LS y
      have c01 : (0 : Int) ≤ (k : Int) := by omega
      have c02 : (k : Int) < (n : Int) := by omega
      have F := Lib.hid (hout.next (Below.refl _ _).drew)
      clear hcell hv hy HG LS hout
      go_wp2
      go_region_held3 (fun w' => w'.cell? ⟨w.heap.size, 0, none⟩ = some (.int .i64 x.b) ∧ w'.cell? ⟨w.heap.size, 1, none⟩ = some (.int .i64 x.d) ∧ w'.cell? ⟨w.heap.size, 2, none⟩ = some (.int .i64 x.s) ∧ w'.cell? ⟨w.heap.size, 3, none⟩ = some (.int .i64 x.i) ∧ w'.cell? ⟨q, off + k * 4, none⟩ = some (.int .i64 y.b) ∧ w'.cell? ⟨q, off + k * 4 + 1, none⟩ = some (.int .i64 y.d) ∧ w'.cell? ⟨q, off + k * 4 + 2, none⟩ = some (.int .i64 y.s) ∧ w'.cell? ⟨q, off + k * 4 + 3, none⟩ = some (.int .i64 y.i)) (exact ⟨F.out.box.c0, F.out.box.c1, F.out.box.c2, F.out.box.c3, HC.out _ F.out.be⟩)
        (first
          | (go_at_call 25; (with_reducible refine (LS1 _).mono ?_); rintro e wn ⟨rfl, mo⟩; have F := Lib.hid (F.out.next mo.below); clear mo))
      cases hb : eltB x y with
      | false =>
        have HE := Lib.hid hb
        clear hb
        cases b with
        | false =>
          obtain ⟨b0, b1, b2, b3⟩ := HC.out _ F.out.be
          go_wp2_with (at_builtin; refine wpList_append_lies _ rfl _ _ 26 rfl (w.heap.size + 1) 35 i0 (.agg #[.int .i64 0, .int .i64 0, .int .i64 0, .int .i64 0]) 4 32 Try.underlying26 hi hz0 hz1 hz2 rfl (by decide) _ _ _ rfl (F.out.own.alloc _) ⟨wn.heap.size, 0, none⟩ 1 1 (encE y) rfl rfl ?ca1 ?ca2 ?ca3 ?ca4 ?ca5 ?ca6 (wn.heap.size + 1) ?ca7 ?_)
          case ca1 => exact World.news_of_block (cs := #[.int .i64 y.b, .int .i64 y.d, .int .i64 y.s, .int .i64 y.i]) (heap_alloc_new wn _)
          case ca2 => intro u hu; simp [encE] at hu; rcases hu with rfl | rfl | rfl | rfl <;> rfl
          case ca3 => first | omega | (have := F.out.be.size; simp; omega)
          case ca4 => unfold maxLen; omega
          case ca5 => first | omega | (have := F.out.box.size; simp; omega)
          case ca6 => have := F.out.box.size; simp; omega
          case ca7 => simp
          · intro g1 cap w1 hown1 hgrow _ hlt1
            have E := Lib.hid (F.out.app hown1 hgrow)
            have HI2 := Lib.hid (HI.out.go (y := y) (.inr HE.out))
            clear hown1 hgrow hlt1 F HI b0 b1 b2 b3
            go_wp2
            go_roundw
            case rel => exact ⟨k + 1, _, _, by omega, by go_num, rfl, by rw [htk.out]; exact HI2.out, by have e := E.out; rw [List.length_append] at e; exact e⟩
            case measure => simp [intOf]; omega
        | true =>
          obtain ⟨b0, b1, b2, b3⟩ := HC.out _ F.out.be
          go_wp2_with (at_builtin; refine wpList_append_lies _ rfl _ _ 26 rfl (w.heap.size + 1) 35 i0 (.agg #[.int .i64 0, .int .i64 0, .int .i64 0, .int .i64 0]) 4 32 Try.underlying26 hi hz0 hz1 hz2 rfl (by decide) _ _ _ rfl (F.out.own.alloc _) ⟨wn.heap.size, 0, none⟩ 1 1 (encE y) rfl rfl ?cb1 ?cb2 ?cb3 ?cb4 ?cb5 ?cb6 (wn.heap.size + 1) ?cb7 ?_)
          case cb1 => exact World.news_of_block (cs := #[.int .i64 y.b, .int .i64 y.d, .int .i64 y.s, .int .i64 y.i]) (heap_alloc_new wn _)
          case cb2 => intro u hu; simp [encE] at hu; rcases hu with rfl | rfl | rfl | rfl <;> rfl
          case cb3 => first | omega | (have := F.out.be.size; simp; omega)
          case cb4 => unfold maxLen; omega
          case cb5 => first | omega | (have := F.out.box.size; simp; omega)
          case cb6 => have := F.out.box.size; simp; omega
          case cb7 => simp
          · intro g1 cap w1 hown1 hgrow _ hlt1
            have E := Lib.hid (F.out.app hown1 hgrow)
            have HI2 := Lib.hid (HI.out.go (y := y) (.inl rfl))
            clear hown1 hgrow hlt1 F HI b0 b1 b2 b3
            go_wp2
            go_roundw
            case rel => exact ⟨k + 1, _, _, by omega, by go_num, rfl, by rw [htk.out]; exact HI2.out, by have e := E.out; rw [List.length_append] at e; exact e⟩
            case measure => simp [intOf]; omega
      | true =>
        have HE := Lib.hid hb
        clear hb
        cases b with
        | true =>
          obtain ⟨b0, b1, b2, b3⟩ := HC.out _ F.out.be
          go_wp2_with (at_builtin; refine wpList_append_lies _ rfl _ _ 26 rfl (w.heap.size + 1) 35 i0 (.agg #[.int .i64 0, .int .i64 0, .int .i64 0, .int .i64 0]) 4 32 Try.underlying26 hi hz0 hz1 hz2 rfl (by decide) _ _ _ rfl (F.out.own.alloc _) ⟨wn.heap.size, 0, none⟩ 1 1 (encE y) rfl rfl ?cc1 ?cc2 ?cc3 ?cc4 ?cc5 ?cc6 (wn.heap.size + 1) ?cc7 ?_)
          case cc1 => exact World.news_of_block (cs := #[.int .i64 y.b, .int .i64 y.d, .int .i64 y.s, .int .i64 y.i]) (heap_alloc_new wn _)
          case cc2 => intro u hu; simp [encE] at hu; rcases hu with rfl | rfl | rfl | rfl <;> rfl
          case cc3 => first | omega | (have := F.out.be.size; simp; omega)
          case cc4 => unfold maxLen; omega
          case cc5 => first | omega | (have := F.out.box.size; simp; omega)
          case cc6 => have := F.out.box.size; simp; omega
          case cc7 => simp
          · intro g1 cap w1 hown1 hgrow _ hlt1
            have E := Lib.hid (F.out.app hown1 hgrow)
            have HI2 := Lib.hid (HI.out.go (y := y) (.inl rfl))
            clear hown1 hgrow hlt1 F HI b0 b1 b2 b3
            go_wp2
            go_roundw
            case rel => exact ⟨k + 1, _, _, by omega, by go_num, rfl, by rw [htk.out]; exact HI2.out, by have e := E.out; rw [List.length_append] at e; exact e⟩
            case measure => simp [intOf]; omega
        | false =>
          obtain ⟨a0, a1, a2, a3, az⟩ := F.out.box
          go_wp2_with (at_builtin; refine wpList_append_lies _ rfl _ _ 26 rfl (w.heap.size + 1) 35 i0 (.agg #[.int .i64 0, .int .i64 0, .int .i64 0, .int .i64 0]) 4 32 Try.underlying26 hi hz0 hz1 hz2 rfl (by decide) _ _ _ rfl (F.out.own.alloc _) ⟨wn.heap.size, 0, none⟩ 1 1 (encE x) rfl rfl ?cd1 ?cd2 ?cd3 ?cd4 ?cd5 ?cd6 (wn.heap.size + 1) ?cd7 ?_)
          case cd1 => exact World.news_of_block (cs := #[.int .i64 x.b, .int .i64 x.d, .int .i64 x.s, .int .i64 x.i]) (heap_alloc_new wn _)
          case cd2 => intro u hu; simp [encE] at hu; rcases hu with rfl | rfl | rfl | rfl <;> rfl
          case cd3 => first | omega | (have := F.out.be.size; simp; omega)
          case cd4 => unfold maxLen; omega
          case cd5 => first | omega | (have := F.out.box.size; simp; omega)
          case cd6 => have := F.out.box.size; simp; omega
          case cd7 => simp
          · intro g1 cap w1 hown1 hgrow _ hlt1
            have E := Lib.hid (F.out.app hown1 hgrow)
            have hol1 : (o ++ [x]).length ≤ k + 2 := by simp; omega
            obtain ⟨b0, b1, b2, b3⟩ := HC.out _ E.out.be
            clear hown1 hgrow hlt1 F a0 a1 a2 a3 az
            rw [show o.length + 1 = (o ++ [x]).length by simp]
            generalize ho1 : o ++ [x] = o1 at *
            have HO1 := Lib.hid ho1
            clear ho1
            go_wp2_with (at_builtin; refine wpList_append_lies _ rfl _ _ 26 rfl (w.heap.size + 1) 35 i0 (.agg #[.int .i64 0, .int .i64 0, .int .i64 0, .int .i64 0]) 4 32 Try.underlying26 hi hz0 hz1 hz2 rfl (by decide) _ _ _ rfl (E.out.own.alloc _) ⟨w1.heap.size, 0, none⟩ 1 1 (encE y) rfl rfl ?ce1 ?ce2 ?ce3 ?ce4 ?ce5 ?ce6 (w1.heap.size + 1) ?ce7 ?_)
            case ce1 => exact World.news_of_block (cs := #[.int .i64 y.b, .int .i64 y.d, .int .i64 y.s, .int .i64 y.i]) (heap_alloc_new w1 _)
            case ce2 => intro u hu; simp [encE] at hu; rcases hu with rfl | rfl | rfl | rfl <;> rfl
            case ce3 => first | omega | (have := E.out.be.size; simp; omega)
            case ce4 => unfold maxLen; omega
            case ce5 => first | omega | (have := E.out.box.size; simp; omega)
            case ce6 => have := E.out.box.size; simp; omega
            case ce7 => simp
            · intro g2 cap2 w2 hown2 hgrow2 _ hlt2
              have E2 := Lib.hid (E.out.app hown2 hgrow2)
              have HI2 := Lib.hid (HI.out.put HE.out)
              clear hown2 hgrow2 hlt2 E HI b0 b1 b2 b3
              go_wp2
              go_roundw
              case rel => exact ⟨k + 1, true, o1 ++ [y], by omega, by go_num, rfl, by rw [htk.out, ← HO1.out]; exact HI2.out, by have e := E2.out; rw [List.length_append] at e; exact e⟩
              case measure => simp [intOf]; omega
    · obtain rfl : k = n := by omega
      have e1 : l.take k = l := List.take_of_length_le (by rw [HN.out]; omega)
      rw [e1] at HI
      clear e1 HG LS
      cases b with
      | true =>
        have HO := Lib.hid hout
        have he := HI.out.end_yes
        subst he
        clear hout
        go_wp2
        go_ret
        exact ⟨_, rfl, HO.out.ends, HO.out.be⟩
      | false =>
        obtain ⟨a0, a1, a2, a3, az⟩ := hout.box
        have F := Lib.hid hout
        clear hout
        go_wp2_with (at_builtin; refine wpList_append_lies _ rfl _ _ 26 rfl (w.heap.size + 1) 35 i0 (.agg #[.int .i64 0, .int .i64 0, .int .i64 0, .int .i64 0]) 4 32 Try.underlying26 hi hz0 hz1 hz2 rfl (by decide) _ _ _ rfl (F.out.own.alloc _) ⟨wr.heap.size, 0, none⟩ 1 1 (encE x) rfl rfl ?cf1 ?cf2 ?cf3 ?cf4 ?cf5 ?cf6 (wr.heap.size + 1) ?cf7 ?_)
        case cf1 => exact World.news_of_block (cs := #[.int .i64 x.b, .int .i64 x.d, .int .i64 x.s, .int .i64 x.i]) (heap_alloc_new wr _)
        case cf2 => intro u hu; simp [encE] at hu; rcases hu with rfl | rfl | rfl | rfl <;> rfl
        case cf3 => first | omega | (have := F.out.be.size; simp; omega)
        case cf4 => unfold maxLen; omega
        case cf5 => first | omega | (have := F.out.box.size; simp; omega)
        case cf6 => have := F.out.box.size; simp; omega
        case cf7 => simp
        · intro g1 cap w1 hown1 hgrow _ hlt1
          have E := Lib.hid (F.out.app hown1 hgrow)
          have he := Lib.hid HI.out.end_no
          clear hown1 hgrow hlt1 F a0 a1 a2 a3 az
          go_wp2
          go_ret
          refine ⟨_, rfl, ?_, E.out.be⟩
          have e := E.out.ends
          rw [he.out] at e
          rw [show o.length + 1 = (insE x l).length by rw [← he.out]; simp]
          exact e
end Go.Proofs.Ytiighhcilgjebaa
