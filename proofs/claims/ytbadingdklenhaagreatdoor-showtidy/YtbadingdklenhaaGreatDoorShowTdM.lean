/-
  What Tidy does with every text (layer 11), and what every statement of the layer asks first.
-/
import Derived.Test.YtbadingdklenhaaGreatDoorShowPrint
import Derived.Test.YtbadingdklenhaaGreatDoorParseFull
import Derived.Test.YtbadingdklenhaaGreatDoorTie
import Derived.Test.YtbadingdklenhaaGreatDoorCards
import Derived.ProofKit
import Derived.OpenShut
import Derived.ShutString
import Derived.ChangeOld
import Derived.Below
import Derived.LaidMore
import Derived.MakeChecks
import Derived.Stop.LaidErr
import Derived.SizedLaws
import Derived.Stop.Joined
import Derived.HandedShaped
import Derived.Lay
import Derived.PinnedBridge
import Derived.Lib.LaidU8
import Derived.LaidLaws
import Derived.Deep.Slices
import Derived.Deep.Matrix
import Derived.Laws.IdiomArrays
import Derived.Lib.SmallJoins
namespace Go.Proofs.YtbadingdklenhaaGreatDoor
set_option maxRecDepth 100000
open Go.RowKit

/-- Tidy's error, its text. -/
def tdE (l : List UInt8) : Int := if (parseL l).err = 0 then prE (parseL l).inst else (parseL l).err
def tdT (l : List UInt8) : List UInt8 := if (parseL l).err = 0 then prT (parseL l).inst else []
/-- P11.2: what is printed is tidy. -/
theorem tidy_show {I : In} (h : I.chk = 0) (hl : (instT I).length ≤ 1048576) : tdE (instT I) = 0 ∧ tdT (instT I) = instT I := by
  have e := parse_show h hl
  have h1 : prE I = 0 := by unfold prE; rw [if_pos h, if_pos hl]
  unfold tdE tdT
  rw [e]
  simp only [if_true]
  exact ⟨h1, by unfold prT; rw [h1, if_pos rfl]⟩
set_option maxHeartbeats 1000000 in
theorem tidy_any (s : ByteArray) (w : World) (hL : LibOk w) (hW : WordsOk w) (hT : TabOk w) :
    Calls Tryz.prog 12 #[.string s] w fun e w' => e = .returned (.tuple #[.string ⟨(tdT s.data.toList).toArray⟩, .int .i64 (tdE s.data.toList)]) ∧ Below w.heap.size w w' := by
  have PA := fun W a b => parse_any s W a b
  have PR := fun F G I v W a b c => print_any F G I v W a b c
  unfold IsPs at PA
  obtain ⟨te, hte⟩ : ∃ x, tdE s.data.toList = x := ⟨_, rfl⟩
  obtain ⟨tt, htt⟩ : ∃ x, tdT s.data.toList = x := ⟨_, rfl⟩
  rw [hte, htt]
  unfold tdE at hte
  unfold tdT at htt
  obtain ⟨PS, hPS⟩ : ∃ q, parseL s.data.toList = q := ⟨_, rfl⟩
  rw [hPS] at PA hte htt
  obtain ⟨I, l, c, er⟩ := PS
  simp only at *
  by_cases he : er = 0
  · subst he
    rw [if_pos rfl] at hte htt
    subst hte htt
    clear hPS
    go_enter Tryz.func12, Tryz.ntmps12
    go_wp2_with fail
    with_reducible refine (PA w hL hW).mono ?_
    rintro e w1 ⟨v, rfl, hI, b1⟩
    obtain ⟨A0, n0, C0, A1, n1, C1, A2, n2, C2, rfl⟩ := InV hI
    have nb : Below w1.heap.size w1 ((w1.alloc (.cells #[.int .i64 I.kind, .int .i64 I.cap, .slice A0 n0 C0, .slice A1 n1 C1, .int .i64 I.size, .slice A2 n2 C2] 33)).alloc (.cells #[.int .i64 (l : Nat), .int .i64 (c : Nat)] 52)) := (new_below _ _).alloc (by simp) _
    have hb := b1.trans (nb.mono b1.size)
    have P1 := PR _ _ I _ _ (hI.next nb) (hW.next hb) (hT.next hb)
    have HB := Lib.hid hb
    clear hI nb hb b1 PA PR
    go_wp2_with fail
    with_reducible refine P1.mono ?_
    rintro e w2 ⟨rfl, b2⟩
    have HB2 := Lib.hid (HB.out.trans (b2.mono HB.out.size))
    clear P1 b2 HB
    go_wp2
    go_ret2
    exact ⟨rfl, HB2.out⟩
  · rw [if_neg he] at hte htt
    subst hte htt
    have he2 : ¬ (er : Int) = 0 := by omega
    clear hPS PR he
    go_enter Tryz.func12, Tryz.ntmps12
    go_wp2_with fail
    with_reducible refine (PA w hL hW).mono ?_
    rintro e w1 ⟨v, rfl, hI, b1⟩
    obtain ⟨A0, n0, C0, A1, n1, C1, A2, n2, C2, rfl⟩ := InV hI
    have nb : Below w1.heap.size w1 ((w1.alloc (.cells #[.int .i64 I.kind, .int .i64 I.cap, .slice A0 n0 C0, .slice A1 n1 C1, .int .i64 I.size, .slice A2 n2 C2] 33)).alloc (.cells #[.int .i64 (l : Nat), .int .i64 (c : Nat)] 52)) := (new_below _ _).alloc (by simp) _
    have HB := Lib.hid (b1.trans (nb.mono b1.size))
    clear hI nb b1 PA
    go_wp2
    go_ret2
    exact ⟨rfl, HB.out⟩

def wakeT : List UInt8 := [99, 111, 118, 101, 114, 32, 51, 32, 115, 101, 116, 32, 53, 58, 48, 32, 50]
def wakeU : List UInt8 := [99, 111, 118, 101, 114, 32, 51, 10, 115, 101, 116, 32, 53, 58, 32, 48, 32, 50, 10]
theorem itoa_lt {u : Nat} (h : u < 10) : Lib.itoa (u : Int) = [UInt8.ofNat (48 + u)] := by
  unfold Lib.itoa
  rw [if_neg (by omega), Int.toNat_natCast, dec_lt h]
theorem wake_td : tdE wakeT = 0 ∧ tdT wakeT = wakeU := by
  have e : parseL wakeT = ⟨⟨3, 0, [], [], 3, [(5, [0, 2])]⟩, 0, 0, 0⟩ := by kernel_rfl
  have i3 : numT 3 = [32, 51] := by unfold numT; rw [show (3 : Int) = ((3 : Nat) : Int) from rfl, itoa_lt (by omega)]; rfl
  have i5 : numT 5 = [32, 53] := by unfold numT; rw [show (5 : Int) = ((5 : Nat) : Int) from rfl, itoa_lt (by omega)]; rfl
  have i0 : numT 0 = [32, 48] := by unfold numT; rw [show (0 : Int) = ((0 : Nat) : Int) from rfl, itoa_lt (by omega)]; rfl
  have i2 : numT 2 = [32, 50] := by unfold numT; rw [show (2 : Int) = ((2 : Nat) : Int) from rfl, itoa_lt (by omega)]; rfl
  have et : instT ⟨3, 0, [], [], 3, [(5, [0, 2])]⟩ = wakeU := by
    unfold instT
    rw [if_neg (by show ¬ (3 : Int) = 0; omega), if_pos rfl]
    simp only [setsT, numsT, i3, i5, i0, i2]
    rfl
  have hc : In.chk ⟨3, 0, [], [], 3, [(5, [0, 2])]⟩ = 0 := by kernel_rfl
  have h1 : prE ⟨3, 0, [], [], 3, [(5, [0, 2])]⟩ = 0 := by
    unfold prE
    rw [if_pos hc, et, if_pos (by decide)]
  unfold tdE tdT
  rw [e]
  simp only [if_true]
  exact ⟨h1, by unfold prT; rw [h1, if_pos rfl, et]⟩
end Go.Proofs.YtbadingdklenhaaGreatDoor

/-
  What the frames of the laws' proofs of layer 11 share: what the listed variables of Go's library and of the project give a walk; the witness's world; an instance that came in; what every statement asks first.
-/
namespace Go.Proofs.YtbadingdklenhaaGreatDoor
set_option maxRecDepth 100000
open Go.Joins Go.ChangeShapes Go.WideShapes Go.ChangeAt Go.RowKit Go.Deep

theorem own : ownKnob Tryz.prog.godebug = none := by kernel_rfl
theorem laidOut : laidOutB Tryz.prog = true := by kernel_rfl
/-- The listed variables, as every row of this seat lists them. -/
def laidL : List (String × DataW Unit) := Rows.showBackRow.laid
theorem laid_eq : laidL = Rows.showBackRow.laid := rfl
theorem cells64 : Tryz.prog.cellsOf 2 = 1 := by kernel_rfl
theorem cellsInt : Tryz.prog.cellsOf 3 = 1 := by kernel_rfl
theorem cellsPair : Tryz.prog.cellsOf 64 = 2 := by kernel_rfl
theorem cellsRow : Tryz.prog.cellsOf 68 = 1 := by kernel_rfl
theorem cellsSet : Tryz.prog.cellsOf 67 = 2 := by kernel_rfl
theorem cellsInts : Tryz.prog.cellsOf 65 = 1 := by kernel_rfl
theorem cellsU : Tryz.prog.cellsOf 139 = 1 := by kernel_rfl
theorem cellsTab : Tryz.prog.cellsOf 180 = 20 := by kernel_rfl
theorem tTab : (Tryz.prog.globals[1]?).map (·.type) = some 180 := by kernel_rfl
theorem tab_datum : (Rows.laid_internal_strconv_uint64pow10 : DataW Unit) = Lib.tabData .u64 Lib.pow10Tab := by kernel_rfl
theorem spot_none {w : World} {a : Addr} {v : Value} (h : w.cell? a = some v) : a.spot = none := by
  unfold World.cell? at h
  split at h
  · split at h
    · cases h
    · rename_i hs; simpa using hs
  · cases h
theorem gRng : Tryz.prog.globalNamed "strconv.ErrRange" = some 4 := by kernel_rfl
theorem tRng : (Tryz.prog.globals[4]?).map (·.type) = some 149 := by kernel_rfl
theorem cellsEs : Tryz.prog.cellsOf 213 = 1 := by kernel_rfl
theorem cellsStr : Tryz.prog.cellsOf 9 = 1 := by kernel_rfl
theorem star : "*" ++ "errors.errorString" = "*errors.errorString" := by decide
theorem rowEs (u : TypeId) (h : Tryz.prog.typeName? 3 u = some "*errors.errorString") : u = 211 :=
  typeName_ptr_named (nm := "errors.errorString") (by rw [star]; kernel_rfl) (by kernel_rfl) (by decide) u (by rw [star]; exact h)

/-- What the condition gives the walks. -/
theorem libOk_of_laid {W : World} (h : laidMetH Tryz.prog laidL W) : LibOk W := by
  rw [MakeChecks.laidMetH_plain _ _ _ (by kernel_rfl)] at h
  have h3 := h.tail.tail.tail.tail.tail
  obtain ⟨a, s, hv, _⟩ := laid_sentinel h3 gRng tRng Tryz.underlying149 rowEs Tryz.underlying211 Tryz.underlying213 rfl rfl Tryz.underlying9 cellsEs cellsStr
  exact ⟨_, _, hv⟩
theorem tab_of_laid {W : World} (h : laidMetH Tryz.prog laidL W) : TabOk W := by
  rw [MakeChecks.laidMetH_plain _ _ _ (by kernel_rfl)] at h
  have h2 := h.tail.tail
  rw [show (("internal/strconv.uint64pow10", Rows.laid_internal_strconv_uint64pow10) : String × DataW Unit) = ("internal/strconv.uint64pow10", Lib.tabData .u64 Lib.pow10Tab) from by rw [tab_datum]] at h2
  exact Lib.tabIs_of_head gTab tTab Tryz.underlying180 Tryz.underlying139 cellsU cellsTab h2
theorem gWt : Tryz.prog.globalNamed "secateur/inst.words" = some 0 := by kernel_rfl
theorem tWt : (Tryz.prog.globals[0]?).map (·.type) = some 132 := by kernel_rfl
theorem cellsW : Tryz.prog.cellsOf 132 = 4 := by kernel_rfl
/-- What the condition gives the walks. -/
theorem words_of_laid {W : World} (h : laidMetH Tryz.prog laidL W) : WordsOk W := by
  rw [MakeChecks.laidMetH_plain _ _ _ (by kernel_rfl)] at h
  obtain ⟨ps, hvs, _⟩ := h
  obtain ⟨g0, t0, cs0, f0, p0, hg0, ht0, hv0, hd0⟩ := Lib.LaidVars_reads hvs "secateur/inst.words" Rows.laid_secateur_inst_words (by
    rw [laid_eq]
    unfold Rows.showBackRow
    simp)
  obtain rfl := Option.some.inj (gWt.symm.trans hg0)
  obtain rfl := Option.some.inj (tWt.symm.trans ht0)
  obtain ⟨xs, m, _, _, hcl, _, _⟩ := DataW.trod_array Tryz.underlying132 hd0
  rw [cellsW] at hcl
  obtain ⟨l0⟩ := cs0
  match l0, hcl with
  | [c0, c1, c2, c3], _ =>
    obtain ⟨y0, y1, y2, y3, n, hx, h0, h1, h2, h3⟩ := trod_array4 Tryz.underlying132 cellsStr hd0
    obtain ⟨s0, a0, b0, _⟩ := DataW.trod_string Tryz.underlying9 h0
    obtain ⟨s1, a1, b1, _⟩ := DataW.trod_string Tryz.underlying9 h1
    obtain ⟨s2, a2, b2, _⟩ := DataW.trod_string Tryz.underlying9 h2
    obtain ⟨s3, a3, b3, _⟩ := DataW.trod_string Tryz.underlying9 h3
    subst b0 b1 b2 b3
    simp at a0 a1 a2 a3
    subst a0 a1 a2 a3
    have hx1 := congrArg Prod.fst hx
    have hx2 : (Rows.laid_secateur_inst_words : DataW Unit) = .agg [.lit (.string s0.data.toList), .lit (.string s1.data.toList), .lit (.string s2.data.toList), .lit (.string s3.data.toList)] := hx1
    unfold Rows.laid_secateur_inst_words at hx2
    simp only [DataW.agg.injEq, List.cons.injEq, DataW.lit.injEq, Lit.string.injEq, and_true] at hx2
    obtain ⟨k0, k1, k2, k3⟩ := hx2
    have key : ∀ {A B : ByteArray}, A.data.toList = B.data.toList → A = B := fun h => ByteArray.ext (Array.toList_inj.1 h)
    have z0 : s0 = word 0 := key k0.symm
    have z1 : s1 = word 1 := key k1.symm
    have z2 : s2 = word 2 := key k2.symm
    have z3 : s3 = word 3 := key k3.symm
    intro i hi
    have hc := World.var?_cell gWt hv0 i
    rw [hc]
    match i, hi with
    | 0, _ => rw [z0]; rfl
    | 1, _ => rw [z1]; rfl
    | 2, _ => rw [z2]; rfl
    | 3, _ => rw [z3]; rfl

/-! ### the witness's world -/
theorem start_met (os : Os) (args : Array Value) : laidMetH Tryz.prog laidL ((World.laidAll Tryz.prog os laidL).forCall (fun _ _ => 0) ⟨#[], args, []⟩).memory := by
  rw [MakeChecks.laidMetH_plain _ _ _ (by kernel_rfl)]
  exact laidMet_laidAll _ (by kernel_rfl) (by kernel_rfl)
theorem start_shaped (os : Os) : (World.laidAll Tryz.prog os laidL).Shaped Tryz.prog := World.shaped_of_ZipB (by kernel_rfl) (by kernel_rfl)
/-! ### an instance that came in -/
theorem lies_addr {W : World} {a : Addr} {n C : Nat} {cs : List Value} (hn : n ≤ C) (hC : C ≤ maxLen) (hl : 0 < n → 0 < cs.length) (h : ∀ (j : Nat) v, cs[j]? = some v → W.cell? (a.add j) = some v) : Lies (fun _ => True) W (.slice (some a) n C) n cs := by
  refine ⟨_, _, rfl, hn, hC, fun h0 => ?_⟩
  have hl := hl h0
  have hc := h 0 _ (List.getElem?_eq_getElem hl)
  have hs : a.spot = none := by
    have := spot_none hc
    unfold Addr.add at this
    simpa using this
  obtain ⟨b, off, sp⟩ := a
  simp only at hs
  subst hs
  refine ⟨b, off, rfl, trivial, ?_, fun j v hj => ?_⟩
  · rw [addr_plain] at hc
    exact cell_lt hc
  · have := h j v hj
    rw [addr_plain] at this
    exact this
section
variable {H : Type} {enc : TypeId × Value → H} {W : World} {b0 base : Nat} {held : Bool} {r : Reach} {v : Value} {d : DataW H} {p : List MemPlace}
theorem ints_cells {t e : TypeId} {fuel : Nat} {c : Value} {y : DataW H × List MemPlace} (ht : Tryz.prog.underlying t = some (.slice e)) (he : Tryz.prog.underlying e = some (.int .i64)) (hc : Tryz.prog.cellsOf e = 1)
    (h : DataW.trod enc Tryz.prog W base (fun _ => true) held fuel t [c] = some y) : ∃ l, Ints (fun _ => True) W c l := by
  rcases open_ints ht he hc h with ⟨hcs, _⟩ | ⟨x, l, C, zs, hcs, _, hl, hm, hz, _, hcell, _⟩
  · simp at hcs
    subst hcs
    exact ⟨[], Lies.nil _ _ _⟩
  · simp at hcs hz
    subst hcs
    have hll : (zs.take l).length = l := by rw [List.length_take]; omega
    refine ⟨zs.take l, ?_⟩
    show Lies _ W _ (zs.take l).length _
    rw [hll]
    refine lies_addr hl hm (fun h0 => by rw [nl_length, hll]; exact h0) (fun j u hj => ?_)
    simp only [nl, List.getElem?_map, List.getElem?_take] at hj
    split at hj
    · rename_i hjl
      have hjz : j < zs.length := by omega
      rw [List.getElem?_eq_getElem hjz] at hj
      have := hcell j hjz
      rw [this, List.getD_eq_getElem?_getD, List.getElem?_eq_getElem hjz]
      simpa using hj
    · simp at hj
theorem items_cells {fuel : Nat} {c : Value} {y : DataW H × List MemPlace} (h : DataW.trod enc Tryz.prog W base (fun _ => true) held fuel 22 [c] = some y) : ∃ l, Its (fun _ => True) W c l := by
  rcases open_slice Tryz.underlying22 h with ⟨hcs, _⟩ | ⟨a, len, cap, m, n, D, Pl, hcs, hb, hl, hm, hmm, hx, hi⟩
  · simp at hcs
    subst hcs
    exact ⟨[], Lies.nil _ _ _⟩
  · simp at hcs
    subst hcs
    have key : ∀ i, ∃ q : Int × Int, i < len → W.cell? ((a.add (i * 2)).add 0) = some (.int .i64 q.1) ∧ W.cell? ((a.add (i * 2)).add 1) = some (.int .i64 q.2) := by
      intro i
      by_cases hil : i < len
      · obtain ⟨cs', hc, ht⟩ := hi i (by rw [hmm]; simp; omega)
        rw [cellsPair] at hc
        obtain ⟨_, hcl, hat⟩ := World.cells?_some hc
        match cs', hcl with
        | [u0, u1], _ =>
          obtain ⟨xs, m', _, _, _, hxl, hel⟩ := DataW.trod_array Tryz.underlying64 ht
          rw [cells64] at hel
          have e0 : DataW.trod enc Tryz.prog W base (fun _ => true) held m' 2 [u0] = xs[0]? := hel 0 (by omega)
          have e1 : DataW.trod enc Tryz.prog W base (fun _ => true) held m' 2 [u1] = xs[1]? := hel 1 (by omega)
          rw [List.getElem?_eq_getElem (by omega)] at e0 e1
          obtain ⟨z0, f0, _, _⟩ := DataW.trod_int Tryz.underlying2 e0
          obtain ⟨z1, f1, _, _⟩ := DataW.trod_int Tryz.underlying2 e1
          simp at f0 f1
          subst f0 f1
          exact ⟨(z0, z1), fun _ => ⟨hat 0 (by omega), hat 1 (by omega)⟩⟩
      · exact ⟨(0, 0), fun h => absurd h hil⟩
    obtain ⟨z, hz⟩ := Classical.skolem.1 key
    refine ⟨(List.range len).map z, ?_⟩
    show Lies _ W _ ((List.range len).map z).length _
    rw [List.length_map, List.length_range]
    refine lies_addr hl hm (fun h0 => by rw [fl2_length]; simp; omega) (fun j u hj => ?_)
    have hjl : j < len * 2 := by
      have := (List.getElem?_eq_some_iff.1 hj).1
      rw [fl2_length] at this
      simpa using this
    obtain ⟨q, hjq⟩ : ∃ q, j = q * 2 ∨ j = q * 2 + 1 := ⟨j / 2, by omega⟩
    have hg : ((List.range len).map z)[q]? = some (z q) := by
      rw [List.getElem?_map, List.getElem?_range (by omega)]
      rfl
    have hf := fl2_get hg
    have hc := hz q (by omega)
    rw [Go.Deep.add_add, Go.Deep.add_add] at hc
    rcases hjq with rfl | rfl
    · rw [hf.1] at hj
      cases hj
      exact hc.1
    · rw [hf.2] at hj
      cases hj
      exact hc.2
theorem sets_cells {fuel : Nat} {c : Value} {y : DataW H × List MemPlace} (h : DataW.trod enc Tryz.prog W base (fun _ => true) held fuel 24 [c] = some y) : ∃ l us, Sts (fun _ => True) (fun _ => True) W c l us := by
  rcases open_slice Tryz.underlying24 h with ⟨hcs, _⟩ | ⟨a, len, cap, m, n, D, Pl, hcs, hb, hl, hm, hmm, hx, hi⟩
  · simp at hcs
    subst hcs
    exact ⟨[], [], ⟨rfl, Lies.nil _ _ _, fun i s v h => by simp at h⟩⟩
  · simp at hcs
    subst hcs
    have key : ∀ i, ∃ q : (Int × List Int) × Value, i < len → W.cell? ((a.add (i * 2)).add 0) = some (.int .i64 q.1.1) ∧ W.cell? ((a.add (i * 2)).add 1) = some q.2 ∧ Ints (fun _ => True) W q.2 q.1.2 := by
      intro i
      by_cases hil : i < len
      · obtain ⟨cs', hc, ht⟩ := hi i (by rw [hmm]; simp; omega)
        rw [cellsSet] at hc
        obtain ⟨_, hcl, hat⟩ := World.cells?_some hc
        match cs', hcl with
        | [u0, u1], _ =>
          obtain ⟨xs, m', _, _, _, hxl, hfs⟩ := DataW.trod_struct Tryz.underlying67 ht
          have e0 := hfs 0 _ rfl
          have e1 := hfs 1 _ rfl
          replace e0 : DataW.trod enc Tryz.prog W base (fun _ => true) held m' 2 (([u0, u1].drop 0).take (Tryz.prog.cellsOf 2)) = xs[0]? := e0
          replace e1 : DataW.trod enc Tryz.prog W base (fun _ => true) held m' 65 (([u0, u1].drop 1).take (Tryz.prog.cellsOf 65)) = xs[1]? := e1
          rw [cells64] at e0
          rw [cellsInts] at e1
          have hx2 : xs.length = 2 := hxl
          rw [List.getElem?_eq_getElem (by omega)] at e0 e1
          obtain ⟨z0, f0, _, _⟩ := DataW.trod_int Tryz.underlying2 e0
          simp at f0
          subst f0
          obtain ⟨l, hI⟩ := ints_cells Tryz.underlying65 Tryz.underlying3 cellsInt e1
          exact ⟨((z0, l), u1), fun _ => ⟨hat 0 (by omega), hat 1 (by omega), hI⟩⟩
      · exact ⟨((0, []), undef), fun h => absurd h hil⟩
    obtain ⟨z, hz⟩ := Classical.skolem.1 key
    refine ⟨(List.range len).map (fun i => (z i).1), (List.range len).map (fun i => (z i).2), ⟨by simp, ?_, fun i s u hs hu => ?_⟩⟩
    · rw [List.length_map, List.length_range]
      refine lies_addr hl hm (fun h0 => by rw [flS_length (by simp)]; simp; omega) (fun j u hj => ?_)
      have hjl : j < len * 2 := by
        have := (List.getElem?_eq_some_iff.1 hj).1
        rw [flS_length (by simp)] at this
        simpa using this
      obtain ⟨q, hjq⟩ : ∃ q, j = q * 2 ∨ j = q * 2 + 1 := ⟨j / 2, by omega⟩
      have hg : ((List.range len).map (fun i => (z i).1))[q]? = some (z q).1 := by
        rw [List.getElem?_map, List.getElem?_range (by omega)]
        rfl
      have hg2 : ((List.range len).map (fun i => (z i).2))[q]? = some (z q).2 := by
        rw [List.getElem?_map, List.getElem?_range (by omega)]
        rfl
      have hf := flS_get hg hg2
      have hc := hz q (by omega)
      rw [Go.Deep.add_add, Go.Deep.add_add] at hc
      rcases hjq with rfl | rfl
      · rw [hf.1] at hj
        cases hj
        exact hc.1
      · rw [hf.2] at hj
        cases hj
        exact hc.2.1
    · have hil : i < len := by have := (List.getElem?_eq_some_iff.1 hs).1; simpa using this
      rw [List.getElem?_map, List.getElem?_range hil] at hs hu
      simp only [Option.map_some, Option.some.injEq] at hs hu
      subst hs hu
      exact (hz i hil).2.2
theorem rows_cells {fuel : Nat} {c : Value} {y : DataW H × List MemPlace} (h : DataW.trod enc Tryz.prog W base (fun _ => true) held fuel 23 [c] = some y) : ∃ R us, Rws (fun _ => True) (fun _ => True) W c R us := by
  rcases open_int_rows Tryz.underlying23 Tryz.underlying68 Tryz.underlying2 cellsRow cells64 h with ⟨hcs, _⟩ | ⟨a, len, cap, A, L, C, Z, hcs, _, hl, hm, _, hr⟩
  · simp at hcs
    subst hcs
    exact ⟨[], [], ⟨rfl, Lies.nil _ _ _, fun i s v h => by simp at h⟩⟩
  · simp at hcs
    subst hcs
    refine ⟨(List.range len).map (fun r => (Z r).take (L r)), (List.range len).map (fun r => .slice (A r) (L r) (C r)), ⟨by simp, ?_, fun i r u hs hu => ?_⟩⟩
    · rw [List.length_map, List.length_range]
      refine lies_addr hl hm (fun h0 => by simp; omega) (fun j u hj => ?_)
      have hjl : j < len := by have := (List.getElem?_eq_some_iff.1 hj).1; simpa using this
      rw [List.getElem?_map, List.getElem?_range hjl] at hj
      simp only [Option.map_some, Option.some.injEq] at hj
      subst hj
      exact (hr j (by omega)).1
    · have hil : i < len := by have := (List.getElem?_eq_some_iff.1 hs).1; simpa using this
      rw [List.getElem?_map, List.getElem?_range hil] at hs hu
      simp only [Option.map_some, Option.some.injEq] at hs hu
      subst hs hu
      obtain ⟨_, h2, h3, h4, _, h6, h7⟩ := hr i (by omega)
      have hll : ((Z i).take (L i)).length = L i := by rw [List.length_take]; omega
      show Lies _ W _ ((Z i).take (L i)).length _
      rw [hll]
      cases hA : A i with
      | none =>
        have h0 := h6 hA
        have : L i = 0 := by omega
        exact ⟨none, C i, rfl, h2, h3, fun h => by omega⟩
      | some x =>
        obtain ⟨_, hcell⟩ := h7 x hA
        refine lies_addr h2 h3 (fun h0 => by rw [nl_length, hll]; exact h0) (fun j u hj => ?_)
        simp only [nl, List.getElem?_map, List.getElem?_take] at hj
        split at hj
        · rename_i hjl
          have hjz : j < (Z i).length := by omega
          rw [List.getElem?_eq_getElem hjz] at hj
          rw [hcell j (by omega), List.getD_eq_getElem?_getD, List.getElem?_eq_getElem hjz]
          simpa using hj
        · simp at hj
theorem open_inst (hv : Value.okWide Tryz.prog W r b0 26 v) (h : DataW.Trod enc Tryz.prog W base (fun _ => true) held 26 v d p) : ∃ I, Ins (fun _ => True) (fun _ => True) W v I ∧ I64 I.kind ∧ I64 I.cap ∧ I64 I.size := by
  obtain ⟨cs, rfl, hsz⟩ := okWide_struct Tryz.underlying26 hv
  obtain ⟨l⟩ := cs
  have hC : Tryz.prog.cellsOf 26 = 6 := by kernel_rfl
  match l, hsz.trans hC with
  | [c0, c1, c2, c3, c4, c5], _ =>
    obtain ⟨fuel, hf⟩ := h
    replace hf : DataW.trod enc Tryz.prog W base (fun _ => true) held fuel 26 [c0, c1, c2, c3, c4, c5] = some (d, p) := hf
    obtain ⟨xs, m, _, _, _, hxl, hfs⟩ := DataW.trod_struct Tryz.underlying26 hf
    have hx6 : xs.length = 6 := hxl
    have e0 := hfs 0 _ rfl
    have e1 := hfs 1 _ rfl
    have e2 := hfs 2 _ rfl
    have e3 := hfs 3 _ rfl
    have e4 := hfs 4 _ rfl
    have e5 := hfs 5 _ rfl
    replace e0 : DataW.trod enc Tryz.prog W base (fun _ => true) held m 3 (([c0, c1, c2, c3, c4, c5].drop 0).take (Tryz.prog.cellsOf 3)) = xs[0]? := e0
    replace e1 : DataW.trod enc Tryz.prog W base (fun _ => true) held m 2 (([c0, c1, c2, c3, c4, c5].drop 1).take (Tryz.prog.cellsOf 2)) = xs[1]? := e1
    replace e2 : DataW.trod enc Tryz.prog W base (fun _ => true) held m 22 (([c0, c1, c2, c3, c4, c5].drop 2).take (Tryz.prog.cellsOf 22)) = xs[2]? := e2
    replace e3 : DataW.trod enc Tryz.prog W base (fun _ => true) held m 23 (([c0, c1, c2, c3, c4, c5].drop 3).take (Tryz.prog.cellsOf 23)) = xs[3]? := e3
    replace e4 : DataW.trod enc Tryz.prog W base (fun _ => true) held m 3 (([c0, c1, c2, c3, c4, c5].drop 4).take (Tryz.prog.cellsOf 3)) = xs[4]? := e4
    replace e5 : DataW.trod enc Tryz.prog W base (fun _ => true) held m 24 (([c0, c1, c2, c3, c4, c5].drop 5).take (Tryz.prog.cellsOf 24)) = xs[5]? := e5
    rw [cellsInt, List.getElem?_eq_getElem (by omega)] at e0
    rw [cells64, List.getElem?_eq_getElem (by omega)] at e1
    rw [show Tryz.prog.cellsOf 22 = 1 by kernel_rfl, List.getElem?_eq_getElem (by omega)] at e2
    rw [show Tryz.prog.cellsOf 23 = 1 by kernel_rfl, List.getElem?_eq_getElem (by omega)] at e3
    rw [cellsInt, List.getElem?_eq_getElem (by omega)] at e4
    rw [show Tryz.prog.cellsOf 24 = 1 by kernel_rfl, List.getElem?_eq_getElem (by omega)] at e5
    obtain ⟨z0, f0, _, w0⟩ := DataW.trod_int Tryz.underlying3 e0
    obtain ⟨z1, f1, _, w1⟩ := DataW.trod_int Tryz.underlying2 e1
    obtain ⟨z4, f4, _, w4⟩ := DataW.trod_int Tryz.underlying3 e4
    obtain ⟨li, hi⟩ := items_cells e2
    obtain ⟨R, uc, hc⟩ := rows_cells e3
    obtain ⟨S, us, hs⟩ := sets_cells e5
    simp at f0 f1 f4
    subst f0 f1 f4
    exact ⟨⟨z0, z1, li, R, z4, S⟩, ⟨⟨c2, c3, c5, uc, us, rfl, hi, hc, hs⟩⟩, bounds_i64 w0, bounds_i64 w1, bounds_i64 w4⟩
end

/-! ### what every statement asks first -/
set_option maxHeartbeats 2000000 in
theorem wakes_any (w : World) (hL : LibOk w) (hW : WordsOk w) (hT : TabOk w) : Calls Tryz.prog 11 #[] w fun e w' => e = .returned (.bool true) ∧ Below w.heap.size w w' := by
  have TD := tidy_any ⟨#[99, 111, 118, 101, 114, 32, 51, 32, 115, 101, 116, 32, 53, 58, 48, 32, 50]⟩ w hL hW hT
  rw [show (⟨#[99, 111, 118, 101, 114, 32, 51, 32, 115, 101, 116, 32, 53, 58, 48, 32, 50]⟩ : ByteArray).data.toList = wakeT from rfl, wake_td.1, wake_td.2] at TD
  unfold wakeU at TD
  go_enter Tryz.func11, Tryz.ntmps11
  go_wp2_with fail
  with_reducible refine TD.mono ?_
  rintro e w1 ⟨rfl, b1⟩
  have HB := Lib.hid b1
  clear b1 TD
  go_wp2
  go_ret
  exact ⟨rfl, HB.out⟩
end Go.Proofs.YtbadingdklenhaaGreatDoor
