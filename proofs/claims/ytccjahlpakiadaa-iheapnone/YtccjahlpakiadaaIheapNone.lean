/-
  IheapNone (layer 6, P6.1): of a nil heap nothing is told, and nothing done; an empty one tells nothing: for every entry the law returns true, and the entry reads as it did. No condition.
-/
import Derived.Test.YtccjahlpakiadaaHeapFrame
namespace Go.Proofs.Ytccjahlpakiadaa.I.iheapNone
open Go.Proofs.Ytccjahlpakiadaa
set_option maxRecDepth 100000
open Go.RowKit Go.Sort

/-- A list with nothing. -/
def EmptyL (w : World) (e : Ending) (w' : World) : Prop := ∃ a c, e = .returned (.slice a 0 c) ∧ Below w.heap.size w w'
/-- A heap that is none, or empty. -/
structure NoneP (p : Value) (w : World) : Prop where
  mk ::
  len : ∀ W : World, Below w.heap.size w W → Calls Try.prog 18 #[p] W fun e w'' => e = .returned (.int .i64 0) ∧ W = w''
  list : ∀ W : World, Below w.heap.size w W → Calls Try.prog 20 #[p] W (EmptyL W)
theorem NoneP.nil (w : World) : NoneP (.pointer none) w :=
  ⟨fun W _ => len_nil W, fun W _ => (list_nil W).mono fun e w' ⟨h1, h2⟩ => ⟨none, 0, h1, by rw [← h2]; exact Below.refl _ _⟩⟩
theorem NoneP.empty {w : World} {B hb : Nat} {v : Value} (h : HeapAt w B hb v []) : NoneP (.pointer (some ⟨hb, 0, none⟩)) w :=
  ⟨fun W hW => len0 h W hW, fun W hW => (list_any W B hb v [] (by simp) (h.next hW)).mono fun e w' ⟨h1, _, h3⟩ => ⟨_, _, h1, h3⟩⟩
theorem NoneP.next {p : Value} {w w' : World} (h : NoneP p w) (hb : Below w.heap.size w w') : NoneP p w' :=
  ⟨fun W hW => h.len W (hb.trans (hW.mono hb.size)), fun W hW => h.list W (hb.trans (hW.mono hb.size))⟩
/-- The three heaps of the law. -/
structure Three (w : World) (g : Nat) (wr : World) : Prop where
  mk ::
  all : ∀ k, k < 3 → ∃ p, wr.cell? ⟨g, k, none⟩ = some p ∧ NoneP p wr
  lt : g < wr.heap.size
  be : Below w.heap.size w wr
theorem Three.next {w wr w' : World} {g : Nat} (h : Three w g wr) (hb : Below wr.heap.size wr w') : Three w g w' := by
  refine ⟨fun k hk => ?_, Nat.lt_of_lt_of_le h.lt hb.size, h.be.trans (hb.mono h.be.size)⟩
  obtain ⟨p, h1, h2⟩ := h.all k hk
  exact ⟨p, by rw [hb.cell (by exact h.lt)]; exact h1, h2.next hb⟩

set_option maxHeartbeats 4000000 in
theorem walk (x : En) (w : World) : Calls Try.prog 6 #[entV x] w fun e w' => e = .returned (.bool true) ∧ Below w.heap.size w w' := by
  have OF := of_any x
  have PN := push_nil x
  have WK := wakes_any
  unfold entV at *
  have NW := new_any
  have BU := fun W => build_any [] (by simp) (.slice none 0 0) W (.inl ⟨rfl, rfl⟩)
  have HB0 : Hid (Below w.heap.size w (w.alloc (.cells #[.int .i64 x.b, .int .i64 x.d, .int .i64 x.s, .int .i64 x.i] 30))) := (Below.refl _ _).alloc (Nat.le_refl _) _
  go_enter Try.func6, Try.ntmps6
  go_wp2_with fail
  with_reducible refine (OF _).mono ?_
  rintro e w1 ⟨rfl, m1⟩
  have HB1 := Lib.hid (HB0.out.trans (m1.below.mono HB0.out.size))
  clear m1 HB0 OF
  go_wp2_with fail
  with_reducible refine (PN _).mono ?_
  rintro e w2 ⟨rfl, b2⟩
  have HB2 := Lib.hid (HB1.out.trans (b2.mono HB1.out.size))
  clear b2 HB1 PN
  go_wp2_with fail
  with_reducible refine (NW _).mono ?_
  rintro e w3 ⟨rfl, h3, m3⟩
  have HB3 := Lib.hid (HB2.out.trans (m3.below.mono HB2.out.size))
  have H3 := Lib.hid (NoneP.empty h3)
  clear m3 h3 HB2 NW
  go_wp2_with fail
  with_reducible refine (BU _).mono ?_
  rintro e w4 ⟨hb, v4, l4, rfl, h4, p4, _, b4⟩
  obtain rfl : l4 = [] := List.eq_nil_of_length_eq_zero p4.length_eq
  have hB4 := HB3.out.trans (b4.mono HB3.out.size)
  have h4' := NoneP.empty h4
  have h3' := H3.out.next b4
  have F : Hid (Three w w4.heap.size (w4.alloc (.cells #[.pointer none, .pointer (some ⟨w2.heap.size, 0, none⟩), .pointer (some ⟨hb, 0, none⟩)] 24))) := by
    have bb : Below w4.heap.size w4 (w4.alloc (.cells #[.pointer none, .pointer (some ⟨w2.heap.size, 0, none⟩), .pointer (some ⟨hb, 0, none⟩)] 24)) := (Below.refl _ _).alloc (Nat.le_refl _) _
    have hn := heap_alloc_new w4 (.cells #[.pointer none, .pointer (some ⟨w2.heap.size, 0, none⟩), .pointer (some ⟨hb, 0, none⟩)] 24)
    refine ⟨fun k hk => ?_, by simp, hB4.trans (bb.mono hB4.size)⟩
    match k, hk with
    | 0, _ => exact ⟨_, cell_of hn 0, NoneP.nil _⟩
    | 1, _ => exact ⟨_, cell_of hn 1, h3'.next bb⟩
    | 2, _ => exact ⟨_, cell_of hn 2, h4'.next bb⟩
  clear h4 p4 b4 hB4 h4' h3' HB3 H3 BU
  go_wp2
  generalize (w4.alloc (.cells #[.pointer none, .pointer (some ⟨w2.heap.size, 0, none⟩), .pointer (some ⟨hb, 0, none⟩)] 24)) = w5 at *
  generalize w4.heap.size = g at *
  go_loopw [23] (fun i wr => ∃ k : Nat, k ≤ 3 ∧ i = .int .i64 k ∧ Three w g wr) (fun i _ => 3 - (intOf i).toNat)
  case atStart => exact ⟨0, by omega, rfl, F.out⟩
  case round =>
    obtain ⟨k, hk, rfl, hT⟩ := hrel
    clear F
    have HT := Lib.hid hT
    by_cases hlt : k < 3
    · obtain ⟨p, hp, hN⟩ := hT.all k hlt
      have M1 := fun W hW => min_none p W (fun W' hW' => hN.len W' (Below.trans hW (hW'.mono hW.size)))
      have M2 := fun W hW => max_none p W (fun W' hW' => hN.len W' (Below.trans hW (hW'.mono hW.size)))
      have M3 := fun W hW => popMin_none p W (fun W' hW' => hN.len W' (Below.trans hW (hW'.mono hW.size)))
      have M4 := fun W hW => popMax_none p W (fun W' hW' => hN.len W' (Below.trans hW (hW'.mono hW.size)))
      have H1 := Lib.hid M1
      have H2 := Lib.hid M2
      have H3 := Lib.hid M3
      have H4 := Lib.hid M4
      have HL := Lib.hid hN.len
      have HI := Lib.hid hN.list
      have c1 : (0 : Int) ≤ (k : Int) := by omega
      have c2 : (k : Int) < 3 := by omega
      have C1 := H1.out wr (Below.refl _ _)
      clear M1 M2 M3 M4 hN hT
      go_wp2_with fail
      with_reducible refine C1.mono ?_
      rintro e a1 ⟨rfl, b1⟩
      have B1 := Lib.hid (b1.alloc b1.size (.cells #[.int .i64 0, .int .i64 0, .int .i64 0, .int .i64 0] 39))
      have C2 := H2.out _ B1.out
      clear b1 C1 H1 hp
      unfold entV zeroE
      go_wp2_with fail
      with_reducible refine C2.mono ?_
      rintro e a2 ⟨rfl, b2⟩
      have B2 := Lib.hid (B1.out.trans (b2.mono B1.out.size))
      have B2' := Lib.hid (B2.out.alloc B2.out.size (.cells #[.int .i64 0, .int .i64 0, .int .i64 0, .int .i64 0] 39))
      have C3 := H3.out _ B2'.out
      clear b2 C2 H2 B1 B2
      unfold entV zeroE
      go_wp2_with fail
      with_reducible refine C3.mono ?_
      rintro e a3 ⟨rfl, b3⟩
      have B3 := Lib.hid (B2'.out.trans (b3.mono B2'.out.size))
      have B3' := Lib.hid (B3.out.alloc B3.out.size (.cells #[.int .i64 0, .int .i64 0, .int .i64 0, .int .i64 0] 39))
      have C4 := H4.out _ B3'.out
      clear b3 C3 H3 B2' B3
      unfold entV zeroE
      go_wp2_with fail
      with_reducible refine C4.mono ?_
      rintro e a4 ⟨rfl, b4⟩
      have B4 := Lib.hid (B3'.out.trans (b4.mono B3'.out.size))
      have B4' := Lib.hid (B4.out.alloc B4.out.size (.cells #[.int .i64 0, .int .i64 0, .int .i64 0, .int .i64 0] 39))
      have C5 := HL.out _ B4'.out
      have C6 := HI.out _ B4'.out
      clear b4 C4 H4 B3' B4 HL HI
      unfold entV zeroE
      go_wp2_with (first | (go_at_call 18; (with_reducible refine C5.mono ?_); rintro e w' ⟨rfl, rfl⟩) | fail)
      with_reducible refine C6.mono ?_
      rintro e a5 ⟨q1, q2, rfl, b5⟩
      have B5 := Lib.hid (HT.out.next (B4'.out.trans (b5.mono B4'.out.size)))
      clear b5 C5 C6 B4' HT
      go_wp2
      go_roundw
      case rel => exact ⟨k + 1, by omega, by go_num, B5.out⟩
      case measure => simp [intOf]; omega
    · obtain rfl : k = 3 := by omega
      have C := WK wr
      have HB := Lib.hid hT.be
      clear hT HT WK
      go_wp2_with fail
      with_reducible refine C.mono ?_
      rintro e w6 ⟨rfl, b6⟩
      have HB6 := Lib.hid (HB.out.trans (b6.mono HB.out.size))
      clear b6 C HB
      go_wp2
      go_ret
      exact ⟨rfl, HB6.out⟩

/-! ### the row -/
open Go.ChangeShapes Go.WideShapes Go.ChangeAt
set_option maxRecDepth 100000 in
theorem lifted (os : Os) (started : os.Started) (H : Type) (enc : TypeId × Value → H) :
    ReturnsInHanded {} Try.checked os 6 .any (Rows.iheapNoneSpec.pre6 enc Try.prog Try.f6 Rows.iheapNoneRow.domain false) (Rows.iheapNoneSpec.post enc Try.prog Try.f6 false true false false) := by
  refine returnsInHanded_of_change (C := Try.checked) own started (by kernel_rfl) Try.func6
    (ChangeSpec.witness6 (enc := enc) (C := Try.checked) false ⟨#[], #[.agg #[.int .i64 0, .int .i64 0, .int .i64 0, .int .i64 0]], []⟩ 8 (by kernel_rfl) (by kernel_rfl) (by kernel_rfl) (by kernel_rfl)) ?_
  intro W base args ds gs before hval0 hW hcnd _
  have hval : ∀ (j : Nat) t v, Try.f6.params[j]? = some t → args[j]? = some v → Value.okWide Try.prog W .any base t v := hval0
  have hW' := hW
  obtain ⟨p, q, hA0, hV, rfl, hfz, hnd⟩ := hW
  have hA : DataW.TrodAll enc Try.prog W 0 (fun _ => true) true Try.f6.params.toList args.toList ds p := hA0
  rw [Try.params6] at hA hval
  obtain ⟨v0, vs0, d0, ds0, p0, q0, hargs, rfl, rfl, h0, r0⟩ := trodAll_cons hA
  obtain ⟨rfl, rfl, rfl⟩ := trodAll_nil r0
  obtain rfl : args = #[v0] := by cases args; simp_all
  obtain ⟨rfl, rfl⟩ := trodVars_none hV
  have k0 := h0
  have lt0 : ∀ x ∈ p0, x.block < W.heap.size := by obtain ⟨m, hm⟩ := k0; exact DataW.trod_lt m _ _ _ hm
  obtain ⟨x0, w0, rfl⟩ := open_ent (hval 0 30 v0 rfl rfl) h0
  clear hA0 hval0
  refine (walk x0 W ).mono fun e W' ⟨he, bel⟩ => ?_
  subst he
  exact ⟨_, rfl, _, _, _, [], _, [], hW', trodAll_mk1 (shut_bool Try.underlying4 _), (trodAll_cons_mk (Below.trod laidOut (by kernel_rfl) (of_decide_eq_true (by kernel_rfl)) k0 bel lt0) trodAll_mk0), rfl, bel.frame _, fun h => by cases h⟩

theorem over : Rows.iheapNoneRow.holds Try.pinned (OpenSpec.ofChange Rows.iheapNoneSpec) :=
  OpenClaim.holds_of_wide 6 Try.f6 rfl rfl rfl rfl rfl rfl rfl ⟨rfl, rfl, rfl, rfl, rfl⟩ rfl rfl rfl rfl rfl (by kernel_rfl) Try.func6 (by kernel_rfl)
    (of_decide_eq_true (by kernel_rfl)) (by unfold Func.isWrapper; first | (rw [if_pos (by decide +kernel)]; kernel_rfl) | (rw [if_neg (by decide +kernel)]; exact ⟨rfl, rfl⟩))
    (fun os started H enc _ => lifted os started H enc)

end Go.Proofs.Ytccjahlpakiadaa.I.iheapNone
namespace Go.Proofs.Ytccjahlpakiadaa
theorem iheapNone_holds : Rows.IheapNoneSaid := I.iheapNone.over
#print axioms iheapNone_holds
end Go.Proofs.Ytccjahlpakiadaa
