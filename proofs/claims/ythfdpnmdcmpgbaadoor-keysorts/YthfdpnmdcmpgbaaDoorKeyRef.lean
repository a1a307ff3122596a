/-
  What the document's Sort does (layer 4): each one put at its place, in a row of its own.
-/
import Derived.Test.YthfdpnmdcmpgbaaDoorKeySort2
import Derived.Test.YthfdpnmdcmpgbaaDoorKeyText2
import Derived.Test.YthfdpnmdcmpgbaaDoorEntryKit
import Derived.Deep.AppendLies
namespace Go.Proofs.YthfdpnmdcmpgbaaDoor
set_option maxRecDepth 100000
open Go.RowKit Go.Sort

theorem infoR : (Tryd.prog.info? 29).map (fun i => (i.zero, i.size, i.bytes)) = some (some (.agg #[.int .i64 0, .int .i64 0, .int .i64 0, .int .i64 0]), 4, 32) := by kernel_rfl
/-- What the document's Sort answers. -/
def IsRSorted (l : List En) (w : World) (e : Ending) (w' : World) : Prop :=
  ∃ v, e = .returned v ∧ w'.ownsRow w.heap.size 29 4 v l.length (flatE (srt l)) ∧ Below w.heap.size w w'
theorem ListAt.get {w : World} {g i : Nat} {l : List En} (h : ListAt w g l) (hi : i < l.length) : w.cell? ⟨g, i * 4, none⟩ = some (.int .i64 (l[i]).b) ∧ w.cell? ⟨g, i * 4 + 1, none⟩ = some (.int .i64 (l[i]).d) ∧ w.cell? ⟨g, i * 4 + 2, none⟩ = some (.int .i64 (l[i]).s) ∧ w.cell? ⟨g, i * 4 + 3, none⟩ = some (.int .i64 (l[i]).i) := by
  obtain ⟨a, b, c, d⟩ := flatE_at l i hi
  exact ⟨h.2 _ _ a, h.2 _ _ b, h.2 _ _ c, h.2 _ _ d⟩
theorem own_list {w : World} {B g n cap : Nat} {t : TypeId} {l : List En} (h : w.ownsRow B t 4 (.slice (some ⟨g, 0, none⟩) n cap) n (flatE l)) : ListAt w g l := by
  have hlt := (h.lt g rfl).2
  refine ⟨hlt, fun j v hj => ?_⟩
  have := h.cells (g := g) rfl j v hj
  rwa [add0] at this

theorem srt_nil : srt [] = [] := by unfold srt; simp
/-- The state of the inner loop: what is put at its place. -/
structure Puts (w : World) (g cap k : Nat) (L : List En) (P Q : List En) (x : En) (wr : World) : Prop where
  mk ::
  own : wr.ownsRow w.heap.size 29 4 (.slice (some ⟨g, 0, none⟩) (k + 1) cap) (k + 1) (flatE (P ++ x :: Q))
  len : P.length + Q.length = k
  perm : (P ++ x :: Q).Perm L
  srt : Srt (P ++ Q)
  lt : ∀ z ∈ Q, eltP x z
  be : Below w.heap.size w wr

theorem Puts.next {w wr w' : World} {g cap k : Nat} {L P Q : List En} {x : En} (h : Puts w g cap k L P Q x wr) (hb : Below wr.heap.size wr w') : Puts w g cap k L P Q x w' :=
  ⟨h.own.kept (row := none) ⟨hb.os, hb.tape, hb.output, hb.size, fun k hk _ => hb.block k hk⟩ (.inr (by simp [Value.ownBlock])), h.len, h.perm, h.srt, h.lt, h.be.trans (hb.mono h.be.size)⟩
theorem Puts.cells {w wr : World} {g cap k m : Nat} {L P Q : List En} {x z : En} (h : Puts w g cap k L (P ++ [z]) Q x wr) (hm : P.length = m) :
    wr.cell? ⟨g, m * 4, none⟩ = some (.int .i64 z.b) ∧ wr.cell? ⟨g, m * 4 + 1, none⟩ = some (.int .i64 z.d) ∧ wr.cell? ⟨g, m * 4 + 2, none⟩ = some (.int .i64 z.s) ∧ wr.cell? ⟨g, m * 4 + 3, none⟩ = some (.int .i64 z.i) ∧
    wr.cell? ⟨g, (m + 1) * 4, none⟩ = some (.int .i64 x.b) ∧ wr.cell? ⟨g, (m + 1) * 4 + 1, none⟩ = some (.int .i64 x.d) ∧ wr.cell? ⟨g, (m + 1) * 4 + 2, none⟩ = some (.int .i64 x.s) ∧ wr.cell? ⟨g, (m + 1) * 4 + 3, none⟩ = some (.int .i64 x.i) := by
  have hL := own_list h.own
  have h1 := hL.get (i := m) (by simp; omega)
  have h2 := hL.get (i := m + 1) (by simp; omega)
  have e1 : (P ++ [z] ++ x :: Q)[m]'(by simp; omega) = z := by
    subst hm; simp
  have e2 : (P ++ [z] ++ x :: Q)[m + 1]'(by simp; omega) = x := by
    subst hm
    rw [List.getElem_append_right (by simp)]
    simp
  rw [e1] at h1
  rw [e2] at h2
  exact ⟨h1.1, h1.2.1, h1.2.2.1, h1.2.2.2, h2.1, h2.2.1, h2.2.2.1, h2.2.2.2⟩
theorem Puts.done {w wr : World} {g cap k : Nat} {l P Q : List En} {x y : En} (h : Puts w g cap k (Go.Proofs.YthfdpnmdcmpgbaaDoor.srt (l.take k) ++ [x]) P Q y wr) (ht : l.take (k + 1) = l.take k ++ [x]) (hp : ∀ p' z, P = p' ++ [z] → ¬ eltP y z) :
    wr.ownsRow w.heap.size 29 4 (.slice (some ⟨g, 0, none⟩) (k + 1) cap) (k + 1) (flatE (Go.Proofs.YthfdpnmdcmpgbaaDoor.srt (l.take (k + 1)))) := by
  have h1 := Srt.put h.srt h.lt hp
  have h2 : (P ++ y :: Q).Perm (l.take (k + 1)) := by
    rw [ht]
    exact h.perm.trans ((srt_perm _).append_right _)
  rw [← srt_unique h2 h1]
  exact h.own

theorem set8 (A R : List Value) (m : Nat) (hA : A.length = m * 4) (a0 a1 a2 a3 b0 b1 b2 b3 c0 c1 c2 c3 d0 d1 d2 d3 : Value) :
    ((((((((A ++ (a0 :: a1 :: a2 :: a3 :: b0 :: b1 :: b2 :: b3 :: R)).set ((m + 1) * 4) c0).set ((m + 1) * 4 + 1) c1).set ((m + 1) * 4 + 2) c2).set ((m + 1) * 4 + 3) c3).set (m * 4) d0).set (m * 4 + 1) d1).set (m * 4 + 2) d2).set (m * 4 + 3) d3
      = A ++ (d0 :: d1 :: d2 :: d3 :: c0 :: c1 :: c2 :: c3 :: R) := by
  have e : ∀ i, m * 4 ≤ i → ∀ (t : List Value) (v : Value), (A ++ t).set i v = A ++ t.set (i - m * 4) v := fun i hi t v => by
    rw [List.set_append_right _ _ (by omega), hA]
  rw [e _ (by omega), e _ (by omega), e _ (by omega), e _ (by omega), e _ (by omega), e _ (by omega), e _ (by omega), e _ (by omega)]
  rw [show (m + 1) * 4 - m * 4 = 4 by omega, show (m + 1) * 4 + 1 - m * 4 = 5 by omega, show (m + 1) * 4 + 2 - m * 4 = 6 by omega, show (m + 1) * 4 + 3 - m * 4 = 7 by omega, show m * 4 - m * 4 = 0 by omega, show m * 4 + 1 - m * 4 = 1 by omega, show m * 4 + 2 - m * 4 = 2 by omega, show m * 4 + 3 - m * 4 = 3 by omega]
  rfl
theorem Puts.swap {w wr : World} {g cap k m : Nat} {L P Q : List En} {y z : En} (h : Puts w g cap k L (P ++ [z]) Q y wr) (hm : P.length = m) (hlt : eltP y z) (o : Obj) :
    Puts w g cap k L P (z :: Q) y (((((((((wr.setCell ⟨g, (m + 1) * 4, none⟩ (.int .i64 z.b)).setCell ⟨g, (m + 1) * 4 + 1, none⟩ (.int .i64 z.d)).setCell ⟨g, (m + 1) * 4 + 2, none⟩ (.int .i64 z.s)).setCell ⟨g, (m + 1) * 4 + 3, none⟩ (.int .i64 z.i)).setCell ⟨g, m * 4, none⟩ (.int .i64 y.b)).setCell ⟨g, m * 4 + 1, none⟩ (.int .i64 y.d)).setCell ⟨g, m * 4 + 2, none⟩ (.int .i64 y.s)).setCell ⟨g, m * 4 + 3, none⟩ (.int .i64 y.i)).alloc o) := by
  have hb := (h.own.lt g rfl).1
  have s1 := (h.own.stored ((m + 1) * 4) (.int .i64 z.b)).1
  have s2 := (s1.stored ((m + 1) * 4 + 1) (.int .i64 z.d)).1
  have s3 := (s2.stored ((m + 1) * 4 + 2) (.int .i64 z.s)).1
  have s4 := (s3.stored ((m + 1) * 4 + 3) (.int .i64 z.i)).1
  have s5 := (s4.stored (m * 4) (.int .i64 y.b)).1
  have s6 := (s5.stored (m * 4 + 1) (.int .i64 y.d)).1
  have s7 := (s6.stored (m * 4 + 2) (.int .i64 y.s)).1
  have s8 := (s7.stored (m * 4 + 3) (.int .i64 y.i)).1
  have e1 : flatE (P ++ [z] ++ y :: Q) = flatE P ++ (.int .i64 z.b :: .int .i64 z.d :: .int .i64 z.s :: .int .i64 z.i :: .int .i64 y.b :: .int .i64 y.d :: .int .i64 y.s :: .int .i64 y.i :: flatE Q) := by
    rw [flatE_append, flatE_append, flatE_cons, List.append_assoc]
    rfl
  rw [e1, set8 (flatE P) (flatE Q) m (by rw [flatE_length, hm])] at s8
  have hl := h.len
  have hq := Srt.step h.srt h.lt hlt
  refine ⟨?_, by simp at hl ⊢; omega, ?_, hq.1, hq.2, ?_⟩
  · have e2 : flatE (P ++ y :: z :: Q) = flatE P ++ (.int .i64 y.b :: .int .i64 y.d :: .int .i64 y.s :: .int .i64 y.i :: .int .i64 z.b :: .int .i64 z.d :: .int .i64 z.s :: .int .i64 z.i :: flatE Q) := by
      rw [flatE_append]
      rfl
    rw [e2]
    exact s8.alloc o
  · refine List.Perm.trans ?_ h.perm
    rw [List.append_assoc]
    exact (List.Perm.swap z y Q).append_left P
  · have b := (((((((h.be.setCell (p := ⟨g, (m + 1) * 4, none⟩) hb (.int .i64 z.b)).setCell (p := ⟨g, (m + 1) * 4 + 1, none⟩) hb (.int .i64 z.d)).setCell (p := ⟨g, (m + 1) * 4 + 2, none⟩) hb (.int .i64 z.s)).setCell (p := ⟨g, (m + 1) * 4 + 3, none⟩) hb (.int .i64 z.i)).setCell (p := ⟨g, m * 4, none⟩) hb (.int .i64 y.b)).setCell (p := ⟨g, m * 4 + 1, none⟩) hb (.int .i64 y.d)).setCell (p := ⟨g, m * 4 + 2, none⟩) hb (.int .i64 y.s)).setCell (p := ⟨g, m * 4 + 3, none⟩) hb (.int .i64 y.i)
    exact b.alloc b.size o

set_option maxHeartbeats 4000000 in
theorem rsort_any (l : List En) (hl : l.length ≤ 100) (p : Option Addr) (c : Nat) (w : World) (hp : 0 < l.length → ∃ g, p = some ⟨g, 0, none⟩ ∧ ListAt w g l) :
    Calls Tryd.prog 15 #[.slice p l.length c] w (IsRSorted l w) := by
  obtain ⟨i0, hi, hz0, hz1, hz2⟩ := info_parts' infoR
  obtain ⟨n, hn⟩ : ∃ n, l.length = n := ⟨_, rfl⟩
  have HN := Lib.hid hn
  have HP := Lib.hid hp
  unfold IsRSorted
  rw [hn] at hl ⊢
  clear hn hp
  go_enter Tryd.func15, Tryd.ntmps15
  go_wp2
  go_loopw [3, 4] (fun d i wr => ∃ k : Nat, k ≤ n ∧ i = .int .i64 k ∧ wr.ownsRow w.heap.size 29 4 d k (flatE (srt (l.take k))) ∧ Below w.heap.size w wr) (fun _ i _ => n - (intOf i).toNat)
  case atStart => exact ⟨0, by omega, rfl, by rw [List.take_zero, srt_nil]; exact World.ownsRow_nil _ _ _ _, Below.refl _ _⟩
  case round =>
    obtain ⟨k, hk, rfl, hown, hbel⟩ := hrel
    have hsz := hbel.size
    by_cases hlt : k < n
    · have hkl : k < l.length := by rw [HN.out]; exact hlt
      obtain ⟨g, rfl, hL⟩ := HP.out (by omega)
      obtain ⟨c0, c1, c2, c3⟩ := (hL.next hbel).get hkl
      have hgl := (hL.next hbel).1
      obtain ⟨x, hx⟩ : ∃ x, l[k] = x := ⟨_, rfl⟩
      rw [hx] at c0 c1 c2 c3
      have htk : Hid (l.take (k + 1) = l.take k ++ [x]) := by show _ = _; rw [List.take_add_one, List.getElem?_eq_getElem hkl, hx]; rfl
      have c01 : (0 : Int) ≤ (k : Int) := by omega
      have c02 : (k : Int) < (n : Int) := by omega
      clear hx hkl hL
      go_wp2_with (at_builtin; refine wpList_append_lies _ rfl _ _ 40 rfl w.heap.size 29 i0 (.agg #[.int .i64 0, .int .i64 0, .int .i64 0, .int .i64 0]) 4 32 Tryd.underlying40 hi hz0 hz1 hz2 rfl (by decide) _ _ _ rfl (hown.alloc _) ⟨wr.heap.size, 0, none⟩ 1 1 (encE x) rfl rfl ?c1 ?c2 ?c3 ?c4 ?c5 ?c6 (wr.heap.size + 1) ?c7 ?_)
      case c1 => exact World.news_of_block (cs := #[.int .i64 x.b, .int .i64 x.d, .int .i64 x.s, .int .i64 x.i]) (heap_alloc_new wr _)
      case c2 => intro u hu; simp [encE] at hu; rcases hu with rfl | rfl | rfl | rfl <;> rfl
      case c3 => omega
      case c4 => unfold maxLen; omega
      case c5 => omega
      case c6 => simp; omega
      case c7 => simp
      · intro g1 cap w1 hown1 hgrow _ hlt1
        have B1 : Below w.heap.size w w1 := (hbel.alloc hsz _).grown hgrow (by simp; omega) (fun q hq => (hown.lt q hq).1)
        have O1 : Puts w g1 cap k (srt (l.take k) ++ [x]) (srt (l.take k)) [] x w1 := by
          refine ⟨?_, ?_, List.Perm.refl _, ?_, (fun z hz => by simp at hz), B1⟩
          · rw [flatE_append, flatE_cons, flatE_nil, List.append_nil]; exact hown1
          · rw [srt_length, List.length_take, HN.out]; simp; omega
          · rw [List.append_nil]; exact srt_srt _
        have hln : ((srt (l.take k)).length) = k := by rw [srt_length, List.length_take, HN.out]; omega
        have HO := Lib.hid O1
        have HLN := Lib.hid hln
        clear hown hbel hown1 hgrow hlt1 B1 O1 hln c0 c1 c2 c3 hgl hsz
        obtain ⟨wO, hwO⟩ : ∃ q, q = wr := ⟨wr, rfl⟩
        subst hwO
        go_wp2
        go_loopw [5] (fun kv wr => ∃ (P Q : List En) (y : En), kv = .int .i64 (P.length : Int) ∧ Puts w g1 cap k (srt (l.take k) ++ [x]) P Q y wr) (fun kv _ => (intOf kv).toNat)
        case atStart => exact ⟨srt (l.take k), [], x, by rw [HLN.out], HO.out⟩
        case round =>
          obtain ⟨P, Q, y, rfl, hO⟩ := hrel
          rcases List.eq_nil_or_concat P with hP | ⟨P', z, hP⟩
          · subst hP
            have D := Lib.hid (hO.done htk.out (fun p' z hh => by simp at hh))
            have HB := Lib.hid hO.be
            clear hO HO
            go_wp2
            go_roundw
            case rel => exact ⟨k + 1, by omega, by go_num, D.out, HB.out⟩
            case measure => simp [intOf]; omega
          · rw [List.concat_eq_append] at hP
            subst hP
            obtain ⟨m, hm⟩ : ∃ m, P'.length = m := ⟨_, rfl⟩
            have em : (((P' ++ [z]).length : Nat) : Int) = (m : Int) + 1 := by simp [hm]
            rw [em]
            have hmk : m < k := by have := hO.len; simp at this; omega
            have HM := Lib.hid hm
            have c11 : (0 : Int) ≤ (m : Int) := by omega
            have c12 : (m : Int) < (k : Int) + 1 := by omega
            have c13 : (m : Int) + 1 < (k : Int) + 1 := by omega
            have c14 : (0 : Int) ≤ (m : Int) + 1 := by omega
            have kw : IntKind.i64.wrap ((m : Int) + 1 - 1) = (m : Int) := by rw [IntKind.wrap_i64]; omega
            have kw2 : IntKind.i64.wrap (m : Int) = (m : Int) := by rw [IntKind.wrap_i64]; omega
            have RL := rless_any y z
            unfold entV at RL
            have F := Lib.hid (hO.next (Below.refl _ _).drew)
            clear hO HO em hm
            go_wp2
            go_region_held3 (fun w' => w'.cell? ⟨g1, m * 4, none⟩ = some (.int .i64 z.b) ∧ w'.cell? ⟨g1, m * 4 + 1, none⟩ = some (.int .i64 z.d) ∧ w'.cell? ⟨g1, m * 4 + 2, none⟩ = some (.int .i64 z.s) ∧ w'.cell? ⟨g1, m * 4 + 3, none⟩ = some (.int .i64 z.i) ∧ w'.cell? ⟨g1, (m + 1) * 4, none⟩ = some (.int .i64 y.b) ∧ w'.cell? ⟨g1, (m + 1) * 4 + 1, none⟩ = some (.int .i64 y.d) ∧ w'.cell? ⟨g1, (m + 1) * 4 + 2, none⟩ = some (.int .i64 y.s) ∧ w'.cell? ⟨g1, (m + 1) * 4 + 3, none⟩ = some (.int .i64 y.i)) (exact F.out.cells HM.out)
              (first
                | (go_at_call 11; (with_reducible refine (RL _).mono ?_); rintro e wn ⟨rfl, mo⟩; have F := Lib.hid (F.out.next mo.below); clear mo))
            cases hb : eltB y z with
            | false =>
              have nb := (eltB_false _ _).1 hb
              have D := Lib.hid (F.out.done htk.out (fun p' z' hh => by
                have := (List.append_inj' hh rfl).2
                simp at this
                subst this
                exact nb))
              have HB := Lib.hid F.out.be
              clear F hb nb
              go_wp2
              go_roundw
              case rel => exact ⟨k + 1, by omega, by go_num, D.out, HB.out⟩
              case measure => simp [intOf]; omega
            | true =>
              obtain ⟨a0, a1, a2, a3, b0, b1, b2, b3⟩ := F.out.cells HM.out
              have f0 := F.out.own.frozenAt (m * 4)
              have f1 := F.out.own.frozenAt (m * 4 + 1)
              have f2 := F.out.own.frozenAt (m * 4 + 2)
              have f3 := F.out.own.frozenAt (m * 4 + 3)
              have f4 := F.out.own.frozenAt ((m + 1) * 4)
              have f5 := F.out.own.frozenAt ((m + 1) * 4 + 1)
              have f6 := F.out.own.frozenAt ((m + 1) * 4 + 2)
              have f7 := F.out.own.frozenAt ((m + 1) * 4 + 3)
              have fz := (F.out.own.lt g1 rfl).2
              have SW := Lib.hid (F.out.swap HM.out ((eltB_iff _ _).1 hb) (.cells #[.int .i64 y.b, .int .i64 y.d, .int .i64 y.s, .int .i64 y.i] 29))
              clear hb F
              go_wp2
              exact ⟨⟨P', z :: Q, y, by rw [HM.out], SW.out⟩, by simp only [intOf]; omega⟩
    · obtain rfl : k = n := by omega
      have e1 : l.take k = l := List.take_of_length_le (by rw [HN.out]; omega)
      rw [e1] at hown
      have HO := Lib.hid hown
      have HB := Lib.hid hbel
      clear hown hbel e1
      go_wp2
      go_ret
      exact ⟨_, rfl, HO.out, HB.out⟩
end Go.Proofs.YthfdpnmdcmpgbaaDoor
