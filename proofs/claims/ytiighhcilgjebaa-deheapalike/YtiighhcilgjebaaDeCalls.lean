/-
  What the calls of a heap of either kind do (layer 7): build, Bulk, New, Kind, Len, Room.
-/
import Derived.Test.YtiighhcilgjebaaDeFacts
import Derived.BigQuiet
import Derived.Deep.QuietTactic
import Derived.IntWalk
namespace Go.Proofs.Ytiighhcilgjebaa
set_option maxRecDepth 100000
open Go.RowKit Go.Sort

theorem kindOf_any (k : Bool) (hb : Nat) (w : World) : Calls Try.prog 27 #[ifc k hb] w fun e w' => e = .returned (.int .i64 (kN k)) ∧ w = w' := by
  cases k
  · have q := isM hb
    unfold ifc kN
    go_enter Try.func27, Try.ntmps27
    go_wp2
    go_ret
    exact ⟨rfl, rfl⟩
  · have q := isI hb
    unfold ifc kN
    go_enter Try.func27, Try.ntmps27
    go_wp2
    go_ret
    exact ⟨rfl, rfl⟩
theorem len_nilD (w : World) : Calls Try.prog 13 #[.pointer none] w fun e w' => e = .returned (.int .i64 0) ∧ w = w' := by
  go_enter Try.func13, Try.ntmps13
  go_wp2
  go_ret
  exact ⟨rfl, rfl⟩
theorem len_anyD (w : World) (db : Nat) (k : Bool) (hb : Nat) (v : Value) (l : List En) (most : Int) (h : DeAt w db k hb v l most) : Calls Try.prog 13 #[.pointer (some ⟨db, 0, none⟩)] w fun e w' => e = .returned (.int .i64 (l.length : Int)) ∧ w = w' := by
  have c0 := h.c0
  have ha := h.at_
  clear h
  cases k
  · have C := len_any w 0 hb v l ha
    have q := methMLen hb
    unfold ifc at c0
    generalize l.length = n at *
    clear ha
    go_enter Try.func13, Try.ntmps13
    go_wp2_with fail
    with_reducible refine C.mono ?_
    rintro e w' ⟨rfl, rfl⟩
    clear C
    go_wp2
    go_ret
    exact ⟨rfl, rfl⟩
  · have C := I.len_any w 0 hb v l ha
    have q := methILen hb
    unfold ifc at c0
    generalize l.length = n at *
    clear ha
    go_enter Try.func13, Try.ntmps13
    go_wp2_with fail
    with_reducible refine C.mono ?_
    rintro e w' ⟨rfl, rfl⟩
    clear C
    go_wp2
    go_ret
    exact ⟨rfl, rfl⟩
theorem kind_nil (w : World) : Calls Try.prog 11 #[.pointer none] w fun e w' => e = .returned (.int .i64 0) ∧ w = w' := by
  go_enter Try.func11, Try.ntmps11
  go_wp2
  go_ret
  exact ⟨rfl, rfl⟩
theorem kind_any (w : World) (db : Nat) (k : Bool) (hb : Nat) (v : Value) (l : List En) (most : Int) (h : DeAt w db k hb v l most) : Calls Try.prog 11 #[.pointer (some ⟨db, 0, none⟩)] w fun e w' => e = .returned (.int .i64 (kN k)) ∧ w = w' := by
  have c0 := h.c0
  have C := kindOf_any k hb w
  clear h
  generalize ifc k hb = i at *
  go_enter Try.func11, Try.ntmps11
  go_wp2_with fail
  with_reducible refine C.mono ?_
  rintro e w' ⟨rfl, rfl⟩
  clear C
  go_wp2
  go_ret
  exact ⟨rfl, rfl⟩
theorem room_nil (w : World) : Calls Try.prog 14 #[.pointer none] w fun e w' => e = .returned (.int .i64 0) ∧ w = w' := by
  go_enter Try.func14, Try.ntmps14
  go_wp2
  go_ret
  exact ⟨rfl, rfl⟩
theorem below_drewN {B : Nat} (w : World) (n : Nat) : Below B w (w.drewN n) := by
  induction n with
  | zero => exact Below.refl _ _
  | succ n ih => exact ih.drew
theorem room_any (w : World) (db : Nat) (k : Bool) (hb : Nat) (v : Value) (l : List En) (most : Int) (h0 : 0 ≤ most) (h1 : most ≤ 1048576) (hl : l.length ≤ 1000) (h : DeAt w db k hb v l most) : Calls Try.prog 14 #[.pointer (some ⟨db, 0, none⟩)] w fun e w' => e = .returned (.int .i64 (most - (l.length : Int))) ∧ Below w.heap.size w w' := by
  have c1 := h.c1
  have C : ∀ n, Calls Try.prog 13 #[.pointer (some ⟨db, 0, none⟩)] (w.drewN n) fun e w' => e = .returned (.int .i64 (l.length : Int)) ∧ w' = w.drewN n := fun n => (len_anyD (w.drewN n) db k hb v l most (h.next (below_drewN w n))).mono fun _ _ ⟨a, b⟩ => ⟨a, b.symm⟩
  have W1 : IntKind.i64.wrap (most - (l.length : Int)) = most - (l.length : Int) := IntWalk.i64_in _ (by omega)
  generalize l.length = n at *
  clear h h0 h1
  go_enter Try.func14, Try.ntmps14
  go_wp2
  go_quiet ((go_at_call 13; exact Calls.quiet_of_same (C _)))
  go_wp2
  go_ret
  exact ⟨rfl, below_drewN _ _⟩
/-- What build answers. -/
def BuiltD (k : Bool) (l : List En) (w : World) (e : Ending) (w' : World) : Prop :=
  ∃ hb v l', e = .returned (ifc k hb) ∧ HeapAtT (hT k) w' w.heap.size hb v l' ∧ l'.Perm l ∧ hR k l' ∧ Below w.heap.size w w'
theorem buildD_any (k : Bool) (l : List En) (hl : l.length ≤ 1000) (v : Value) (w : World) (h : Lists w v l) : Calls Try.prog 26 #[.int .i64 (kN k), v] w (BuiltD k l w) := by
  cases k
  · have C := build_any l hl v w h
    clear h hl
    unfold kN
    go_enter Try.func26, Try.ntmps26
    go_wp2_with fail
    with_reducible refine C.mono ?_
    rintro e w' ⟨hb, u, l', rfl, h1, h2, h3, h4⟩
    have E : Hid (BuiltD false l w (.returned (.iface 84 (.pointer (some ⟨hb, 0, none⟩)))) w') := ⟨hb, u, l', rfl, h1, h2, h3, h4⟩
    clear C h1 h2 h3 h4
    go_wp2
    go_ret
    exact E.out
  · have C := I.build_any l hl v w h
    clear h hl
    unfold kN
    go_enter Try.func26, Try.ntmps26
    go_wp2_with fail
    with_reducible refine C.mono ?_
    rintro e w' ⟨hb, u, l', rfl, h1, h2, h3, h4⟩
    have E : Hid (BuiltD true l w (.returned (.iface 82 (.pointer (some ⟨hb, 0, none⟩)))) w') := ⟨hb, u, l', rfl, h1, h2, h3, h4⟩
    clear C h1 h2 h3 h4
    go_wp2
    go_ret
    exact E.out
/-- The error of Bulk. -/
def bulkE (k most : Int) (n : Nat) : Int := if k < 0 ∨ 2 ≤ k then 25 else if most < 1 ∨ 1048576 < most then 2 else if most < (n : Int) then 10 else 0
theorem bulk_kind (k most : Int) (v : Value) (w : World) (hk : k < 0 ∨ 2 ≤ k) : Calls Try.prog 9 #[.int .i64 k, .int .i64 most, v] w fun e w' => e = .returned (.tuple #[.pointer none, .int .i64 25]) ∧ w = w' := by
  by_cases h1 : k < 0
  · go_enter Try.func9, Try.ntmps9
    go_wp2
    go_ret2
    exact ⟨rfl, rfl⟩
  · have h2 : 2 ≤ k := by omega
    clear hk
    go_enter Try.func9, Try.ntmps9
    go_wp2
    go_ret2
    exact ⟨rfl, rfl⟩
theorem bulk_arg (k most : Int) (v : Value) (w : World) (hk0 : 0 ≤ k) (hk1 : k < 2) (hm : most < 1 ∨ 1048576 < most) : Calls Try.prog 9 #[.int .i64 k, .int .i64 most, v] w fun e w' => e = .returned (.tuple #[.pointer none, .int .i64 2]) ∧ w = w' := by
  by_cases h1 : most < 1
  · clear hm
    go_enter Try.func9, Try.ntmps9
    go_wp2
    go_ret2
    exact ⟨rfl, rfl⟩
  · have h2 : 1048576 < most := by omega
    clear hm
    go_enter Try.func9, Try.ntmps9
    go_wp2
    go_ret2
    exact ⟨rfl, rfl⟩
theorem bulk_full (k most : Int) (p : Option Addr) (n c : Nat) (w : World) (hk0 : 0 ≤ k) (hk1 : k < 2) (hm0 : 1 ≤ most) (hm1 : most ≤ 1048576) (hn : most < (n : Int)) : Calls Try.prog 9 #[.int .i64 k, .int .i64 most, .slice p n c] w fun e w' => e = .returned (.tuple #[.pointer none, .int .i64 10]) ∧ w = w' := by
  go_enter Try.func9, Try.ntmps9
  go_wp2
  go_ret2
  exact ⟨rfl, rfl⟩
/-- What Bulk answers of what may be. -/
def BulkOk (k : Bool) (most : Int) (l : List En) (w : World) (e : Ending) (w' : World) : Prop :=
  ∃ db, e = .returned (.tuple #[.pointer (some ⟨db, 0, none⟩), .int .i64 0]) ∧ De w' (fun b => w.heap.size ≤ b ∧ b < w'.heap.size) db k (srt l) most ∧ Below w.heap.size w w'
theorem lists_form {w : World} {v : Value} {l : List En} (h : Lists w v l) : ∃ p c, v = .slice p l.length c := by
  rcases h with ⟨rfl, rfl⟩ | ⟨g, c, rfl, _⟩
  · exact ⟨none, 0, rfl⟩
  · exact ⟨_, c, rfl⟩
theorem bulk_ok (k : Bool) (most : Int) (l : List En) (v : Value) (w : World) (hm0 : 1 ≤ most) (hm1 : most ≤ 1048576) (hl : l.length ≤ 1000) (hn : (l.length : Int) ≤ most) (h : Lists w v l) : Calls Try.prog 9 #[.int .i64 (kN k), .int .i64 most, v] w (BulkOk k most l w) := by
  have C := buildD_any k l hl v w h
  obtain ⟨p, c, rfl⟩ := lists_form h
  have hk0 : 0 ≤ kN k := by cases k <;> decide
  have hk1 : kN k < 2 := by cases k <;> decide
  clear h
  obtain ⟨n, en⟩ : ∃ n, l.length = n := ⟨_, rfl⟩
  rw [en] at C hn ⊢
  clear en hl
  obtain ⟨kk, ek⟩ : ∃ kk, kN k = kk := ⟨_, rfl⟩
  rw [ek] at C hk0 hk1 ⊢
  clear ek
  go_enter Try.func9, Try.ntmps9
  go_wp2_with fail
  with_reducible refine C.mono ?_
  rintro e w' ⟨hb, u, l', rfl, h1, h2, h3, h4⟩
  have E : Hid (BulkOk k most l w (.returned (.tuple #[.pointer (some ⟨w'.heap.size, 0, none⟩), .int .i64 0])) (w'.alloc (.cells #[ifc k hb, .int .i64 most] 66))) := by
    have B1 : Below w'.heap.size w' (w'.alloc (.cells #[ifc k hb, .int .i64 most] 66)) := (Below.refl _ _).alloc (Nat.le_refl _) _
    have hs := h4.size
    have hlt := h1.lt
    have hsz : (w'.alloc (.cells #[ifc k hb, .int .i64 most] 66)).heap.size = w'.heap.size + 1 := by simp
    refine ⟨_, rfl, ⟨⟨hb, u, l', ⟨heap_alloc_new _ _, ⟨by omega, fun e => ?_⟩, (h1.mono (Nat.zero_le _)).next B1, h3⟩, srt_perm_eq h2, ⟨h1.ge, by omega⟩, fun q hq => ?_⟩, ⟨hs, by omega⟩, fun b hb => hb.2⟩, h4.trans (B1.mono hs)⟩
    · have := (h1.row.lt _ e).2
      omega
    · have := h1.row.lt _ hq
      exact ⟨this.1, by omega⟩
  clear C h1 h2 h3 h4
  have hi : ∃ t x, ifc k hb = .iface t x := by cases k <;> exact ⟨_, _, rfl⟩
  obtain ⟨t, x, hi⟩ := hi
  rw [hi] at E ⊢
  clear hi
  go_wp2
  go_ret2
  exact E.out
theorem new_okD (k : Bool) (most : Int) (w : World) (hm0 : 1 ≤ most) (hm1 : most ≤ 1048576) : Calls Try.prog 17 #[.int .i64 (kN k), .int .i64 most] w (BulkOk k most [] w) := by
  have C := bulk_ok k most [] (.slice none 0 0) w hm0 hm1 (by simp) (by simp; omega) (.inl ⟨rfl, rfl⟩)
  generalize kN k = kk at *
  clear hm0 hm1
  go_enter Try.func17, Try.ntmps17
  go_wp2_with fail
  with_reducible refine C.mono ?_
  rintro e w' ⟨db, rfl, h⟩
  have E : Hid (BulkOk k most [] w (.returned (.tuple #[.pointer (some ⟨db, 0, none⟩), .int .i64 0])) w') := ⟨db, rfl, h⟩
  clear h C
  go_wp2
  go_ret2
  exact E.out
theorem new_no (k most er : Int) (w : World) (C : Calls Try.prog 9 #[.int .i64 k, .int .i64 most, .slice none 0 0] w fun e w' => e = .returned (.tuple #[.pointer none, .int .i64 er]) ∧ w = w') : Calls Try.prog 17 #[.int .i64 k, .int .i64 most] w fun e w' => e = .returned (.tuple #[.pointer none, .int .i64 er]) ∧ w = w' := by
  go_enter Try.func17, Try.ntmps17
  go_wp2_with fail
  with_reducible refine C.mono ?_
  rintro e w' ⟨rfl, rfl⟩
  clear C
  go_wp2
  go_ret2
  exact ⟨rfl, rfl⟩
end Go.Proofs.Ytiighhcilgjebaa
