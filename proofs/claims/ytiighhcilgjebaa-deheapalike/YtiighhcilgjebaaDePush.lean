/-
  What Push of a heap of either kind does (layer 7).
-/
import Derived.Test.YtiighhcilgjebaaDeAsk
import Derived.StillTailTactics
namespace Go.Proofs.Ytiighhcilgjebaa
set_option maxRecDepth 100000
open Go.RowKit Go.Sort

theorem pushD_nil (x : En) (w : World) : Calls Try.prog 20 #[.pointer none, entV x] w fun e w' => e = .returned (.int .i64 1) ∧ Below w.heap.size w w' := by
  unfold entV
  go_enter Try.func20, Try.ntmps20
  go_wp2
  go_ret
  exact ⟨rfl, (Below.refl _ _).alloc (Nat.le_refl _) _⟩
theorem De.room {w : World} {F : Nat → Prop} {db : Nat} {k : Bool} {m : List En} {most : Int} (h : De w F db k m most) (h0 : 0 ≤ most) (h1 : most ≤ 1048576) (hl : m.length ≤ 1000) : Calls Try.prog 14 #[.pointer (some ⟨db, 0, none⟩)] w fun e w' => e = .returned (.int .i64 (most - (m.length : Int))) ∧ Below w.heap.size w w' := by
  obtain ⟨hb, v, l, hd, rfl, h3, h4⟩ := h.at_
  rw [srt_length] at hl ⊢
  exact room_any w db k hb v l most h0 h1 hl hd
theorem pushD_full (x : En) (w : World) {F : Nat → Prop} {db : Nat} {k : Bool} {m : List En} {most : Int} (h : De w F db k m most) (h0 : 0 ≤ most) (h1 : most ≤ 1048576) (hl : m.length ≤ 1000) (hm : most - (m.length : Int) = 0) : Calls Try.prog 20 #[.pointer (some ⟨db, 0, none⟩), entV x] w fun e w' => e = .returned (.int .i64 10) ∧ Below w.heap.size w w' := by
  have B1 : Below w.heap.size w (w.alloc (.cells #[.int .i64 x.b, .int .i64 x.d, .int .i64 x.s, .int .i64 x.i] 32)) := (Below.refl _ _).alloc (Nat.le_refl _) _
  have C := (h.next B1).room h0 h1 hl
  rw [hm] at C
  have HB1 := Lib.hid B1
  clear h B1 hm h0 h1 hl
  unfold entV
  go_enter Try.func20, Try.ntmps20
  go_wp2_with fail
  with_reducible refine C.mono ?_
  rintro e w' ⟨rfl, b⟩
  have E := Lib.hid (HB1.out.trans (b.mono HB1.out.size))
  clear b C
  go_wp2
  go_ret
  exact ⟨rfl, E.out⟩
/-- What Push leaves of a heap that has room. -/
def PushOk (F : Nat → Prop) (db : Nat) (k : Bool) (m : List En) (most : Int) (x : En) (w : World) (e : Ending) (w' : World) : Prop :=
  ∃ F' : Nat → Prop, e = .returned (.int .i64 0) ∧ De w' F' db k (srt (m ++ [x])) most ∧ Kept F w w' ∧ ∀ b, F' b → F b ∨ w.heap.size ≤ b
theorem DeAt.pushed {w w' : World} {k : Bool} {db hb : Nat} {v : Value} {l : List En} {most : Int} {x : En} {e : Ending} {F : Nat → Prop} (h : DeAt w db k hb v l most) (hF : F hb ∧ F db ∧ ∀ q, v.ownBlock = some q → F q) (hlt : ∀ b, F b → b < w.heap.size) (hp : PushedT (hT k) (hR k) 0 hb v l x w e w') :
    ∃ F' : Nat → Prop, De w' F' db k (srt (srt l ++ [x])) most ∧ Kept F w w' ∧ ∀ b, F' b → F b ∨ w.heap.size ≤ b := by
  obtain ⟨v', l', _, ha, ho, hr, hm, hq⟩ := hp
  have hs := ho.size
  refine ⟨fun b => F b ∨ (w.heap.size ≤ b ∧ b < w'.heap.size), ⟨⟨hb, v', l', ⟨(ho.block _ h.lt h.ne.1 h.ne.2).trans h.blk, ⟨h.ne.1, fun e => ?_⟩, ha, hr⟩, ?_, .inl hF.1, fun q e => ?_⟩, .inl hF.2.1, fun b hb => ?_⟩, Kept.off ho hF.1 hF.2.2, fun b hb => ?_⟩
  · rcases hq _ e with e' | e'
    · exact h.ne.2 e'
    · have := h.lt
      omega
  · exact srt_perm_eq (hm.trans (((srt_perm l).append_right [x]).symm))
  · rcases hq _ e with e' | e'
    · exact .inl (hF.2.2 _ e')
    · exact .inr ⟨e', (ha.row.lt _ e).2⟩
  · rcases hb with hb | hb
    · have := hlt _ hb
      omega
    · exact hb.2
  · rcases hb with hb | hb
    · exact .inl hb
    · exact .inr hb.1
set_option maxHeartbeats 1000000 in
theorem pushM (x : En) (w : World) (db hb : Nat) (v : Value) (l : List En) (most : Int) (F : Nat → Prop) (h : DeAt w db false hb v l most) (hF : F hb ∧ F db ∧ ∀ q, v.ownBlock = some q → F q) (hlt : ∀ b, F b → b < w.heap.size) (h0 : 0 ≤ most) (h1 : most ≤ 1048576) (hl : l.length ≤ 900) (hm : (l.length : Int) < most) : Calls Try.prog 20 #[.pointer (some ⟨db, 0, none⟩), entV x] w (PushOk F db false (srt l) most x w) := by
  have B1 : Below w.heap.size w (w.alloc (.cells #[.int .i64 x.b, .int .i64 x.d, .int .i64 x.s, .int .i64 x.i] 32)) := (Below.refl _ _).alloc (Nat.le_refl _) _
  have C := room_any _ db false hb v l most h0 h1 (by omega) (h.next B1)
  have X := ebox_new w x.b x.d x.s x.i 32
  have hlr : 0 < most - (l.length : Int) := by omega
  have HZ : Hid (w.heap.size < (w.alloc (.cells #[.int .i64 x.b, .int .i64 x.d, .int .i64 x.s, .int .i64 x.i] 32)).heap.size) := by show _ < _; simp
  have HX := Lib.hid X
  have HH := Lib.hid h
  have HF := Lib.hid hF
  have HLT := Lib.hid hlt
  have HB1 := Lib.hid B1
  have HL := Lib.hid hl
  have hne : (most - (l.length : Int) == 0) = false := by simp; omega
  generalize (most - (l.length : Int)) = rm at *
  clear h B1 hm h0 h1 hl X hF hlt
  have q := methMPush hb
  unfold entV
  go_enter Try.func20, Try.ntmps20
  go_wp2_with fail
  with_reducible refine C.mono ?_
  rintro e w2 ⟨rfl, b⟩
  generalize (w.alloc (.cells #[.int .i64 x.b, .int .i64 x.d, .int .i64 x.s, .int .i64 x.i] 32)) = w1 at *
  have b2 : Below w1.heap.size w1 w2.drew := b.drew
  have hd := (HH.out.next HB1.out).next b2
  have ⟨x0, x1, x2, x3, _⟩ := HX.out.next b2
  have c0 : w2.drew.cell? ⟨db, 0, none⟩ = some (ifc false hb) := hd.c0
  unfold ifc at c0
  have P := push_any l HL.out 0 hb v x w2.drew hd.at_ hd.rt
  have HB2 := Lib.hid b2
  have HD := Lib.hid hd
  clear b b2 C hd
  go_wp2
  go_still_tail 5, (by kernel_rfl)
  change wpList _ _ _ _ _ w2.drew
  generalize w2.drew = w3 at *
  unfold entV at P
  go_wp2_with fail
  with_reducible refine P.mono ?_
  intro e w4 hP
  obtain rfl : e = .returned (.tuple #[]) := by obtain ⟨_, _, he, _⟩ := hP; exact he
  have E : Hid (PushOk F db false (srt l) most x w (.returned (.int .i64 0)) w4) := by
    have bb := HB1.out.trans (HB2.out.mono HB1.out.size)
    obtain ⟨F', g1, g2, g3⟩ := HD.out.pushed HF.out (fun b f => Nat.lt_of_lt_of_le (HLT.out b f) bb.size) hP
    refine ⟨F', rfl, g1, (Kept.of (F := F) bb).trans g2 (fun _ _ f => f), fun b f => ?_⟩
    rcases g3 b f with f' | f'
    · exact .inl f'
    · exact .inr (Nat.le_trans bb.size f')
  clear hP P
  go_wp2
  go_ret
  exact E.out
set_option maxHeartbeats 1000000 in
theorem pushI (x : En) (w : World) (db hb : Nat) (v : Value) (l : List En) (most : Int) (F : Nat → Prop) (h : DeAt w db true hb v l most) (hF : F hb ∧ F db ∧ ∀ q, v.ownBlock = some q → F q) (hlt : ∀ b, F b → b < w.heap.size) (h0 : 0 ≤ most) (h1 : most ≤ 1048576) (hl : l.length ≤ 900) (hm : (l.length : Int) < most) : Calls Try.prog 20 #[.pointer (some ⟨db, 0, none⟩), entV x] w (PushOk F db true (srt l) most x w) := by
  have B1 : Below w.heap.size w (w.alloc (.cells #[.int .i64 x.b, .int .i64 x.d, .int .i64 x.s, .int .i64 x.i] 32)) := (Below.refl _ _).alloc (Nat.le_refl _) _
  have C := room_any _ db true hb v l most h0 h1 (by omega) (h.next B1)
  have X := ebox_new w x.b x.d x.s x.i 32
  have hlr : 0 < most - (l.length : Int) := by omega
  have HZ : Hid (w.heap.size < (w.alloc (.cells #[.int .i64 x.b, .int .i64 x.d, .int .i64 x.s, .int .i64 x.i] 32)).heap.size) := by show _ < _; simp
  have HX := Lib.hid X
  have HH := Lib.hid h
  have HF := Lib.hid hF
  have HLT := Lib.hid hlt
  have HB1 := Lib.hid B1
  have HL := Lib.hid hl
  have hne : (most - (l.length : Int) == 0) = false := by simp; omega
  generalize (most - (l.length : Int)) = rm at *
  clear h B1 hm h0 h1 hl X hF hlt
  have q := methIPush hb
  unfold entV
  go_enter Try.func20, Try.ntmps20
  go_wp2_with fail
  with_reducible refine C.mono ?_
  rintro e w2 ⟨rfl, b⟩
  generalize (w.alloc (.cells #[.int .i64 x.b, .int .i64 x.d, .int .i64 x.s, .int .i64 x.i] 32)) = w1 at *
  have b2 : Below w1.heap.size w1 w2.drew := b.drew
  have hd := (HH.out.next HB1.out).next b2
  have ⟨x0, x1, x2, x3, _⟩ := HX.out.next b2
  have c0 : w2.drew.cell? ⟨db, 0, none⟩ = some (ifc true hb) := hd.c0
  unfold ifc at c0
  have P := I.push_any l HL.out 0 hb v x w2.drew hd.at_ hd.rt
  have HB2 := Lib.hid b2
  have HD := Lib.hid hd
  clear b b2 C hd
  go_wp2
  go_still_tail 5, (by kernel_rfl)
  change wpList _ _ _ _ _ w2.drew
  generalize w2.drew = w3 at *
  unfold entV at P
  go_wp2_with fail
  with_reducible refine P.mono ?_
  intro e w4 hP
  obtain rfl : e = .returned (.tuple #[]) := by obtain ⟨_, _, he, _⟩ := hP; exact he
  have E : Hid (PushOk F db true (srt l) most x w (.returned (.int .i64 0)) w4) := by
    have bb := HB1.out.trans (HB2.out.mono HB1.out.size)
    obtain ⟨F', g1, g2, g3⟩ := HD.out.pushed HF.out (fun b f => Nat.lt_of_lt_of_le (HLT.out b f) bb.size) hP
    refine ⟨F', rfl, g1, (Kept.of (F := F) bb).trans g2 (fun _ _ f => f), fun b f => ?_⟩
    rcases g3 b f with f' | f'
    · exact .inl f'
    · exact .inr (Nat.le_trans bb.size f')
  clear hP P
  go_wp2
  go_ret
  exact E.out
theorem pushD_ok (x : En) (w : World) {F : Nat → Prop} {db : Nat} {k : Bool} {m : List En} {most : Int} (h : De w F db k m most) (h0 : 0 ≤ most) (h1 : most ≤ 1048576) (hl : m.length ≤ 900) (hm : (m.length : Int) < most) : Calls Try.prog 20 #[.pointer (some ⟨db, 0, none⟩), entV x] w (PushOk F db k m most x w) := by
  obtain ⟨hb, v, l, hd, rfl, h3, h4⟩ := h.at_
  rw [srt_length] at hl hm
  cases k
  · exact pushM x w db hb v l most F hd ⟨h3, h.F0, h4⟩ h.lt h0 h1 hl hm
  · exact pushI x w db hb v l most F hd ⟨h3, h.F0, h4⟩ h.lt h0 h1 hl hm
end Go.Proofs.Ytiighhcilgjebaa
