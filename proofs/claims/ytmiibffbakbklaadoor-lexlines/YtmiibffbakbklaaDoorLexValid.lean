/-
  strings.ToValidUTF8 of a text without a line feed, '?' in the place of what is broken: each code point of it is whole, none is a line feed, and it is no longer.
-/
import Derived.Test.YtmiibffbakbklaaDoorLexJoin
import Derived.Test.YtmiibffbakbklaaDoorLexLineMath
import Derived.Shelf.Strings.BuilderCap
namespace Go.Proofs.YtmiibffbakbklaaDoor
set_option maxRecDepth 100000
open Go.RowKit

/-- Whole code points, no line feed: by as many steps as one likes. -/
def Vd (l : List UInt8) : Prop := vdf l.length l
theorem vdf_more : ∀ (f g : Nat) (l : List UInt8), l.length ≤ f → l.length ≤ g → vdf f l → vdf g l
  | _, g, [], _, _, _ => by cases g <;> trivial
  | 0, _, _ :: _, h, _, _ => by simp at h
  | _ + 1, 0, _ :: _, _, h, _ => by simp at h
  | f + 1, g + 1, a :: r, h1, h2, h => by
    obtain ⟨h3, h4, h5⟩ := h
    simp only [List.length_cons] at h1 h2
    exact ⟨h3, h4, vdf_more f g _ (by rw [List.length_drop]; omega) (by rw [List.length_drop]; omega) h5⟩
theorem Vd.nil : Vd [] := trivial
theorem Vd.cons {a : UInt8} {r : List UInt8} : Vd (a :: r) ↔ pt (a :: r) ≠ 0 ∧ a ≠ 10 ∧ Vd (r.drop (pt (a :: r) - 1)) := by
  constructor
  · rintro ⟨h1, h2, h3⟩
    exact ⟨h1, h2, vdf_more _ _ _ (by rw [List.length_drop]; omega) (Nat.le_refl _) h3⟩
  · rintro ⟨h1, h2, h3⟩
    exact ⟨h1, h2, vdf_more _ _ _ (Nat.le_refl _) (by rw [List.length_drop]; omega) h3⟩
theorem Vd.app : ∀ (n : Nat) (l m : List UInt8), l.length ≤ n → Vd l → Vd m → Vd (l ++ m)
  | _, [], m, _, _, h => h
  | 0, _ :: _, _, h, _, _ => by simp at h
  | n + 1, a :: r, m, hn, hl, hm => by
    obtain ⟨h1, h2, h3⟩ := Vd.cons.1 hl
    simp only [List.length_cons] at hn
    have e := drop_app m h1
    have e2 := pt_app m h1
    rw [List.cons_append] at e e2 ⊢
    refine Vd.cons.2 ⟨by rw [e2]; exact h1, h2, ?_⟩
    rw [e]
    exact Vd.app n _ m (by rw [List.length_drop]; omega) h3 hm
/-- One code point by itself. -/
theorem Vd.point {a : UInt8} {r : List UInt8} (h : pt (a :: r) ≠ 0) (h10 : a ≠ 10) : Vd ((a :: r).take (pt (a :: r))) := by
  obtain ⟨h1, h2⟩ := pt_all h
  have hle := (pt_bytes h).1
  have hp : 1 ≤ pt (a :: r) := by omega
  have e : (a :: r).take (pt (a :: r)) = a :: r.take (pt (a :: r) - 1) := by
    cases hq : pt (a :: r) with
    | zero => omega
    | succ q => rfl
  have e2 : pt ((a :: r).take (pt (a :: r))) = pt (a :: r) := by
    rw [e, pt_of, h1]
    intro k k1 k2
    have := h2 k k1 k2
    rw [← e]
    unfold okAt at this ⊢
    rw [List.getElem?_take, if_pos (by omega)]
    exact this
  rw [e] at e2 ⊢
  refine Vd.cons.2 ⟨by omega, h10, ?_⟩
  rw [e2, List.drop_eq_nil_of_le (by rw [List.length_take]; omega)]
  exact Vd.nil
theorem Vd.one {a : UInt8} (h : a.toNat < 128) (h10 : a ≠ 10) : Vd [a] := by
  have e := pt_ascii (r := []) h
  exact Vd.cons.2 ⟨by omega, h10, by rw [e]; exact Vd.nil⟩

theorem cap_any (b : Nat) (p : Option Addr) (n cap : Nat) (w : World) (c1 : w.cell? ⟨b, 1, none⟩ = some (.slice p n cap)) :
    Calls Tryd.prog 28 #[.pointer (some ⟨b, 0, none⟩)] w fun e w' => e = .returned (.int .i64 cap) ∧ w' = w := by
  go_enter Tryd.func28, Tryd.ntmps28
  go_wp2
  go_ret
  exact ⟨rfl, rfl⟩
theorem grow_any (B b n : Nat) (w : World) (hB : B ≤ b) (hbk : w.heap[b]? = some (.cells #[.pointer none, .slice none 0 0] 60 (0, 0))) (hBw : B ≤ w.heap.size) (hn : n ≤ 281474976710656) :
    Calls Tryd.prog 27 #[.pointer (some ⟨b, 0, none⟩), .int .i64 n] w fun e w' => e = .returned (.tuple #[]) ∧ (Lib.BuilderAt 60 5 B b (.pointer (some ⟨b, 0, none⟩)) [] w' ∧ Below B w w') ∧ ∃ p cap, w'.cell? ⟨b, 1, none⟩ = some (.slice p 0 cap) ∧ n ≤ cap :=
  Any.Builder_Grow_fresh_cap Tryd.lays165 Tryd.Builder_Extra_165 B b n w hB hbk hBw hn
def wbRen : Go.Shelf.Ren := ⟨fun | 167 => 29 | n => Tryd.lays155_ren.f n, Tryd.lays155_ren.t, Tryd.lays155_ren.g⟩
theorem wbLays : Go.Proofs.Lays.n167 Tryd.prog wbRen := { Tryd.lays155 with f167 := Tryd.func29.trans (congrArg some (by kernel_rfl)) }
theorem writeByte_any (B b : Nat) (bs : List Value) (c : Int) (w : World) (h : Lib.IsBuilderF 60 5 B b bs w) (hlen : bs.length + 1 ≤ 140737488355328) (hBw : B ≤ w.heap.size) :
    Calls Tryd.prog 29 #[.pointer (some ⟨b, 0, none⟩), .int .u8 c] w fun e w' => e = .returned .nilIface ∧ (Lib.BuilderAtF 60 5 B b (.pointer (some ⟨b, 0, none⟩)) (bs ++ [.int .u8 c]) w' ∧ Below B w w' ∧ Lib.OthersKept 5 (some b) w w') :=
  Any.Builder_WriteByte_k wbLays { Tryd.Builder_Extra_155 with } B b bs c w h hlen hBw
theorem write_cap (B b : Nat) (bs : List Value) (s : ByteArray) (w : World) (h : Lib.IsBuilderF 60 5 B b bs w) (hlen : bs.length + s.size ≤ 140737488355328) (hBw : B ≤ w.heap.size) :
    Calls Tryd.prog 24 #[.pointer (some ⟨b, 0, none⟩), .string s] w fun e w' => e = .returned (.tuple #[.int .i64 s.size, .nilIface]) ∧ (Lib.BuilderAtF 60 5 B b (.pointer (some ⟨b, 0, none⟩)) (bs ++ Lib.strCells s) w' ∧ Below B w w' ∧ Lib.OthersKept 5 (some b) w w') ∧ ∀ v0, w.cell? ⟨b, 1, none⟩ = some v0 → ∃ v1, w'.cell? ⟨b, 1, none⟩ = some v1 ∧ v0.capOf ≤ v1.capOf :=
  Any.Builder_WriteString_kc { Tryd.lays155 with } Tryd.Builder_Extra_155 B b bs s w h hlen hBw
theorem decodeGo_no {X : ByteArray} {a : UInt8} {r : List UInt8} (hX : X.data.toList = a :: r) (h0 : pt (a :: r) = 0) : Lib.decodeGo X = (65533, 1) := by
  have hs : 0 < X.size := by rw [← size_list, hX]; simp
  unfold Lib.decodeGo
  rw [if_neg (by omega)]
  exact (decode_no X 0 hs (by rw [List.drop_zero, hX]; exact h0)).1
theorem decodeGo_yes {X : ByteArray} {a : UInt8} {r : List UInt8} (hX : X.data.toList = a :: r) (h0 : pt (a :: r) ≠ 0) : ∃ c, Lib.decodeGo X = (c, pt (a :: r)) := by
  have hs : 0 < X.size := by rw [← size_list, hX]; simp
  unfold Lib.decodeGo
  rw [if_neg (by omega)]
  have := (decode_yes X 0 hs (by rw [List.drop_zero, hX]; exact h0)).1
  rw [List.drop_zero, hX] at this
  exact ⟨(Utf8.decode X 0).1, by rw [← this]⟩

theorem grow_int (B b n : Nat) (n' : Int) (e : n' = (n : Int)) (w : World) (hB : B ≤ b) (hbk : w.heap[b]? = some (.cells #[.pointer none, .slice none 0 0] 60 (0, 0))) (hBw : B ≤ w.heap.size) (hn : n ≤ 281474976710656) :
    Calls Tryd.prog 27 #[.pointer (some ⟨b, 0, none⟩), .int .i64 n'] w fun e w' => e = .returned (.tuple #[]) ∧ (Lib.BuilderAt 60 5 B b (.pointer (some ⟨b, 0, none⟩)) [] w' ∧ Below B w w') ∧ ∃ p cap, w'.cell? ⟨b, 1, none⟩ = some (.slice p 0 cap) ∧ n ≤ cap := by
  rw [e]
  exact grow_any B b n w hB hbk hBw hn
theorem builder_on {T e : TypeId} {B b : Nat} {bs : List Value} {w w' : World} (h : Lib.IsBuilderF T e B b bs w) (hb : Below w.heap.size w w') : Lib.IsBuilderF T e B b bs w' := by
  have one : ∀ p, Lib.BuilderAtF T e B b p bs w → Lib.BuilderAtF T e B b p bs w' := by
    rintro p ⟨hB, v, h1, h2, h3⟩
    have hlt := (Array.getElem?_eq_some_iff.1 h1).1
    refine ⟨hB, v, (hb.block b hlt).trans h1, ⟨h2.1, ?_⟩, h3⟩
    rcases h2.2 with hn | ⟨g, cap, cur, fz, hv, hbg, hg, rest⟩
    · exact .inl hn
    · exact .inr ⟨g, cap, cur, fz, hv, hbg, (hb.block g (Array.getElem?_eq_some_iff.1 hg).1).trans hg, rest⟩
  rcases h with h | h
  · exact .inl (one _ h)
  · exact .inr (one _ h)
theorem tabs_on {g3 g4 : Nat} {w w' : World} (h : Lib.Utf8Tabs g3 g4 w) (hb : Below w.heap.size w w') : Lib.Utf8Tabs g3 g4 w' := Utf8Tabs_below h hb
set_option maxHeartbeats 8000000 in
theorem toValid_any (s : ByteArray) (hs : s.size ≤ 1000) (hN : ∀ b ∈ s.data.toList, b ≠ 10) (w : World) (hT : Lib.Utf8Tabs (Tryd.lays197_ren.g 3) (Tryd.lays197_ren.g 4) w) :
    Calls Tryd.prog 12 #[.string s, .string ⟨#[63]⟩] w fun e w' => (∃ R : ByteArray, e = .returned (.string R) ∧ Vd R.data.toList ∧ R.size ≤ s.size) ∧ Below w.heap.size w w' := by
  have HN := Lib.hid hN
  have HT := Lib.hid hT
  clear hN hT
  have hsz := size_list s
  go_enter Tryd.func12, Tryd.ntmps12
  go_wp2
  go_loopw [0] (fun sv wr => ∃ pos : Nat, pos ≤ s.size ∧ sv = .string s ∧ wr.heap[w.heap.size + 1]? = some (.stringIter s pos) ∧ wr.heap[w.heap.size]? = some (.cells #[.pointer none, .slice none 0 0] 60 (0, 0)) ∧ Hid (Vd (s.data.toList.take pos)) ∧ Hid (Below w.heap.size w wr)) (fun _ wr => s.size - wr.iterPos (w.heap.size + 1))
  case atStart =>
    refine ⟨0, by omega, rfl, ?_, ?_, Vd.nil, ?_⟩
    · have := World.iter_heap (w.alloc (.cells #[.pointer none, .slice none 0 0] 60)) s 0
      simpa using this
    · exact (Below.heap_alloc _ _ _ (by simp)).trans (heap_alloc_new _ _)
    · exact ((Below.refl _ w).alloc (Nat.le_refl _) _).alloc (by simp) _
  case round =>
    obtain ⟨pos, hp, rfl, hit, hbk, hV, hB⟩ := hrel
    have HIT := Lib.hid hit
    have hBs := hB.out.size
    have hk1 : w.heap.size + 1 < wr.heap.size := (Array.getElem?_eq_some_iff.1 hit).1
    by_cases hlt : pos < s.size
    · have hnx : ∀ ty, (Instr.next (.pointer (some ⟨w.heap.size + 1, 0, none⟩)) true ty).run Tryd.prog wr = _ := fun ty => Lib.run_next_any_at wr (w.heap.size + 1) s pos ty hit hlt
      obtain ⟨a, r, hl, ha⟩ := drop_at hlt
      have ha10 : a ≠ 10 := by
        refine HN.out a (List.mem_of_mem_drop (i := pos) ?_)
        rw [hl]
        exact List.mem_cons_self ..
      have hX := extract_rest s pos
      rw [hl] at hX
      have hXs : (s.extract pos s.size).size + pos = s.size := by rw [ByteArray.size_extract]; omega
      by_cases h0 : pt (a :: r) = 0
      · have hD := (broken_yes hlt hl h0).1
        rw [hD] at hnx
        have hG := decodeGo_no hX h0
        have hB2 := Lib.hid (Lib.below_iterAt hB.out (k := w.heap.size + 1) (by omega) s (pos + 1))
        have hbk2 : (wr.iterAt (w.heap.size + 1) s (pos + 1)).heap[w.heap.size]? = some (.cells #[.pointer none, .slice none 0 0] 60 (0, 0)) := (Lib.iterAt_other wr (w.heap.size + 1) w.heap.size s (pos + 1) (by omega)).trans hbk
        have hsz2 : (wr.iterAt (w.heap.size + 1) s (pos + 1)).heap.size = wr.heap.size := Lib.iterAt_size _ _ _ _
        have HBK := Lib.hid hbk2
        have DC := Tryd.utf8_DecodeRuneInString (s.extract pos s.size) (wr.iterAt (w.heap.size + 1) s (pos + 1)) (tabs_on HT.out hB2.out)
        rw [hG] at DC
        clear hD hG hbk2 hit hbk hB
        go_wp2_with fail
        with_reducible refine DC.mono ?_
        rintro e w2 ⟨rfl, b2⟩
        have hB3 := Lib.hid (hB2.out.trans (b2.mono (by rw [hsz2]; omega)))
        have hbk3 := (b2.block w.heap.size (by rw [hsz2]; omega)).trans HBK.out
        have hz3 := hB3.out.size
        have GR := grow_int w.heap.size w.heap.size (s.size + 1) ((s.size : Int) + 1) (by omega) w2 (Nat.le_refl _) hbk3 hz3 (by omega)
        clear DC b2 HBK hB2 hbk3 hnx
        go_wp2_with fail
        with_reducible refine GR.mono ?_
        rintro e w3 ⟨rfl, ⟨hI3, b3⟩, p3, cap3, c3, hcap3⟩
        have hB4 := Lib.hid (hB3.out.trans b3)
        have hz4 := hB4.out.size
        have WC := write_cap w.heap.size w.heap.size [] (s.extract 0 pos) w3 (Lib.IsBuilderF.of (.inr hI3)) (by rw [ByteArray.size_extract]; simp; omega) hz4
        clear GR hB3 b3 hI3
        go_wp2_with fail
        with_reducible refine WC.mono ?_
        rintro e w4 ⟨rfl, ⟨hI4, b4, _⟩, hc4⟩
        obtain ⟨v4, c4, hcap4⟩ := hc4 _ c3
        have hB5 := Lib.hid (hB4.out.trans b4)
        have hv4 : ∃ p n c, v4 = .slice p n c ∧ 1 ≤ c := by
          cases v4 with
          | slice p n c => exact ⟨p, n, c, rfl, by simp only [Value.capOf] at hcap4; omega⟩
          | _ => simp only [Value.capOf] at hcap4; omega
        obtain ⟨p4, n4, cp4, rfl, hcp⟩ := hv4
        have CP := cap_any w.heap.size p4 n4 cp4 w4 c4
        have hI5 : Hid (Lib.IsBuilderF 60 5 w.heap.size w.heap.size (Lib.byteCells (s.data.toList.take pos)) w4) := by
          refine .inr ?_
          rw [List.nil_append, Lib.strCells_eq, extract_list] at hI4
          exact hI4
        have q4 : (((cp4 : Nat) : Int) == 0) = false := beq_eq_false_iff_ne.2 (by omega)
        clear WC hB4 b4 hI4 c3 c4 hc4 hcap4 hcap3
        go_wp2_with fail
        with_reducible refine CP.mono ?_
        rintro e w5 ⟨rfl, hw⟩
        obtain rfl := hw.symm
        clear hw CP
        go_wp2
        have hXN : Hid (∀ b ∈ (s.extract pos s.size).data.toList, b ≠ 10) := by
          intro b hb
          rw [hX, ← hl] at hb
          exact HN.out b (List.mem_of_mem_drop hb)
        have hA0 : (s.data.toList.take pos).length + (s.extract pos s.size).size ≤ s.size := by
          rw [List.length_take]
          omega
        generalize hXX : s.extract pos s.size = X at *
        generalize s.data.toList.take pos = acc0 at *
        have hXz : X.size ≤ s.size := by omega
        have hXl := size_list X
        clear hXX hX hl ha ha10 hXs h0 q4 hcp
        go_loopw [10, 11] (fun nv iv wr => ∃ (i : Nat) (inv : Bool) (acc : List UInt8), i ≤ X.size ∧ nv = .bool inv ∧ iv = .int .i64 (i : Nat) ∧ acc.length + X.size ≤ s.size + i ∧
          Hid (Vd acc) ∧ Hid (Lib.IsBuilderF 60 5 w.heap.size w.heap.size (Lib.byteCells acc) wr) ∧ Hid (Below w.heap.size w wr)) (fun _ iv _ => X.size - (intOf iv).toNat)
        case atStart => exact ⟨0, false, acc0, by omega, rfl, rfl, by omega, hV, hI5, hB5⟩
        case round =>
          obtain ⟨i, inv, acc, hi, rfl, rfl, hacc, hV2, hI, hB6⟩ := hrel
          have hBz := hB6.out.size
          have hal : (Lib.byteCells acc).length = acc.length := Lib.byteCells_length acc
          by_cases hil : i < X.size
          · obtain ⟨a, r, hl, ha⟩ := drop_at hil
            have hsa : X[i]'hil = a := (get_at X i hil).symm.trans ha
            have ha10 : a ≠ 10 := by
              refine hXN.out a (List.mem_of_mem_drop (i := i) ?_)
              rw [hl]
              exact List.mem_cons_self ..
            have hXi := extract_rest X i
            rw [hl] at hXi
            by_cases h128 : a.toNat < 128
            · have k128 : (a.toNat : Int) < 128 := by omega
              have HVn := Lib.hid (Vd.app acc.length acc [a] (Nat.le_refl _) hV2.out (Vd.one h128 ha10))
              have WB := writeByte_any w.heap.size w.heap.size (Lib.byteCells acc) (a.toNat : Int) wr hI.out (by omega) hBz
              clear hI hV2 hXi hl ha ha10 h128
              go_wp2_with fail
              with_reducible refine WB.mono ?_
              rintro e w6 ⟨rfl, i6, b6, _⟩
              have hI7 : Hid (Lib.IsBuilderF 60 5 w.heap.size w.heap.size (Lib.byteCells (acc ++ [a])) w6) := by
                refine .inr ?_
                rw [Lib.byteCells_append]
                exact i6
              have hB7 := Lib.hid (hB6.out.trans b6)
              clear WB hB6 i6 b6
              go_wp2
              go_roundw
              case rel => exact ⟨i + 1, false, acc ++ [a], by omega, rfl, by go_num, by simp; omega, HVn, hI7, hB7⟩
              case measure => simp [intOf]; omega
            · have k128 : ¬ (a.toNat : Int) < 128 := by omega
              have DC := Tryd.utf8_DecodeRuneInString (X.extract i X.size) wr (tabs_on HT.out hB6.out)
              by_cases h0 : pt (a :: r) = 0
              · rw [decodeGo_no hXi h0] at DC
                cases inv with
                | true =>
                  clear hXi hl ha ha10 h128 h0
                  go_wp2_with fail
                  with_reducible refine DC.mono ?_
                  rintro e w6 ⟨rfl, b6⟩
                  have hI7 := Lib.hid (builder_on hI.out b6)
                  have hB7 := Lib.hid (hB6.out.trans (b6.mono hBz))
                  clear DC hI hB6 b6
                  go_wp2
                  go_roundw
                  case rel => exact ⟨i + 1, true, acc, by omega, rfl, by go_num, by omega, hV2, hI7, hB7⟩
                  case measure => simp [intOf]; omega
                | false =>
                  have HVn := Lib.hid (Vd.app acc.length acc [63] (Nat.le_refl _) hV2.out (Vd.one (by decide) (by decide)))
                  clear hXi hl ha ha10 h128 h0
                  go_wp2_with fail
                  with_reducible refine DC.mono ?_
                  rintro e w6 ⟨rfl, b6⟩
                  have hI6 := builder_on hI.out b6
                  have hB7 := Lib.hid (hB6.out.trans (b6.mono hBz))
                  have WS := write_any w.heap.size w.heap.size (Lib.byteCells acc) ⟨#[63]⟩ w6 hI6 (by rw [hal]; have : (⟨#[63]⟩ : ByteArray).size = 1 := rfl; omega) hB7.out.size
                  clear DC hI hB6 b6 hI6 hV2
                  go_wp2_with fail
                  with_reducible refine WS.mono ?_
                  rintro e w7 ⟨rfl, i7, b7, _⟩
                  have hI8 : Hid (Lib.IsBuilderF 60 5 w.heap.size w.heap.size (Lib.byteCells (acc ++ [63])) w7) := by
                    refine .inr ?_
                    rw [Lib.byteCells_append]
                    exact i7
                  have hB8 := Lib.hid (hB7.out.trans b7)
                  clear WS hB7 i7 b7
                  go_wp2
                  go_roundw
                  case rel => exact ⟨i + 1, true, acc ++ [63], by omega, rfl, by go_num, by simp; omega, HVn, hI8, hB8⟩
                  case measure => simp [intOf]; omega
              · obtain ⟨c, hc⟩ := decodeGo_yes hXi h0
                rw [hc] at DC
                have hp1 : pt (a :: r) ≠ 1 := fun h => h128 (pt_one h)
                have hple : i + pt (a :: r) ≤ X.size := by
                  have h5 := (pt_bytes h0).1
                  have h6 : (X.data.toList.drop i).length = X.data.toList.length - i := List.length_drop
                  rw [hl] at h6
                  omega
                have HVn := Lib.hid (Vd.app acc.length acc _ (Nat.le_refl _) hV2.out (Vd.point h0 ha10))
                have hEx : (X.extract i (i + pt (a :: r))).data.toList = (a :: r).take (pt (a :: r)) := by
                  rw [ByteArray.data_extract, Array.toList_extract, List.extract_eq_take_drop, hl, show i + pt (a :: r) - i = pt (a :: r) by omega]
                have hEz : ((a :: r).take (pt (a :: r))).length = pt (a :: r) := by
                  rw [List.length_take]
                  have := (pt_bytes h0).1
                  omega
                have hExz : (X.extract i (i + pt (a :: r))).size = pt (a :: r) := by rw [ByteArray.size_extract]; omega
                have k1 : ¬ ((pt (a :: r) : Nat) : Int) = 1 := by omega
                generalize (a :: r).take (pt (a :: r)) = P at *
                generalize pt (a :: r) = q at *
                clear hXi hl ha ha10 h128 hc
                go_wp2_with fail
                with_reducible refine DC.mono ?_
                rintro e w6 ⟨rfl, b6⟩
                have hI6 := builder_on hI.out b6
                have hB7 := Lib.hid (hB6.out.trans (b6.mono hBz))
                have WS := write_any w.heap.size w.heap.size (Lib.byteCells acc) (X.extract i (i + q)) w6 hI6 (by rw [hal, hExz]; omega) hB7.out.size
                clear DC hI hB6 b6 hI6 hV2
                go_wp2_with fail
                with_reducible refine WS.mono ?_
                rintro e w7 ⟨rfl, i7, b7, _⟩
                have hI8 : Hid (Lib.IsBuilderF 60 5 w.heap.size w.heap.size (Lib.byteCells (acc ++ P)) w7) := by
                  refine .inr ?_
                  rw [Lib.byteCells_append]
                  rw [Lib.strCells_eq, hEx] at i7
                  exact i7
                have hB8 := Lib.hid (hB7.out.trans b7)
                clear WS hB7 i7 b7
                go_wp2
                go_roundw
                case rel => exact ⟨i + q, false, acc ++ P, by omega, rfl, by go_num, by simp only [List.length_append, hEz]; omega, HVn, hI8, hB8⟩
                case measure => simp [intOf]; omega
          · obtain rfl : i = X.size := by omega
            have ST := Tryd.Builder_String_any_k w.heap.size w.heap.size acc wr hI.out hBz
            have HVa := Lib.hid (show Vd (⟨acc.toArray⟩ : ByteArray).data.toList by rw [ba_list]; exact hV2.out)
            have hz := ba_size acc
            clear hI hV2
            go_wp2_with fail
            with_reducible refine ST.mono ?_
            rintro e w6 ⟨rfl, _, b6, _⟩
            go_wp2
            go_ret
            exact ⟨⟨_, rfl, HVa.out, by omega⟩, hB6.out.trans b6⟩
      · obtain ⟨D1, hD, _, _, hle, hdr, hp1⟩ := broken_no hlt hl ha h0
        rw [hD] at hnx
        have hB2 := Lib.hid (Lib.below_iterAt hB.out (k := w.heap.size + 1) (by omega) s (pos + pt (a :: r)))
        have hbk2 : (wr.iterAt (w.heap.size + 1) s (pos + pt (a :: r))).heap[w.heap.size]? = some (.cells #[.pointer none, .slice none 0 0] 60 (0, 0)) := (Lib.iterAt_other wr (w.heap.size + 1) w.heap.size s (pos + pt (a :: r)) (by omega)).trans hbk
        have hit2 := Lib.iterAt_heap wr (w.heap.size + 1) s pos (pos + pt (a :: r)) hit
        have hsz2 : (wr.iterAt (w.heap.size + 1) s (pos + pt (a :: r))).heap.size = wr.heap.size := Lib.iterAt_size _ _ _ _
        have HBK := Lib.hid hbk2
        have HI2 := Lib.hid hit2
        have HVn : Hid (Vd (s.data.toList.take (pos + pt (a :: r)))) := by
          show Vd _
          rw [List.take_add, hl]
          exact Vd.app _ _ _ (Nat.le_refl _) hV.out (Vd.point h0 ha10)
        by_cases hD1 : D1 = 65533
        · subst hD1
          obtain ⟨c, hc⟩ := decodeGo_yes hX h0
          have hq1 : pt (a :: r) ≠ 1 := by
            intro h
            have h7 := pt_one h
            have h8 := decode_ascii s pos hlt (by rw [(get_at s pos hlt).symm.trans ha]; exact h7)
            rw [h8] at hD
            injection hD with h9 _
            rw [(get_at s pos hlt).symm.trans ha] at h9
            omega
          have DC := Tryd.utf8_DecodeRuneInString (s.extract pos s.size) (wr.iterAt (w.heap.size + 1) s (pos + pt (a :: r))) (tabs_on HT.out hB2.out)
          rw [hc] at DC
          have k1 : ¬ ((pt (a :: r) : Nat) : Int) = 1 := by omega
          generalize pt (a :: r) = q at *
          clear hD hdr hl hX hit hbk hit2 hbk2 hc hB ha
          go_wp2_with fail
          with_reducible refine DC.mono ?_
          rintro e w2 ⟨rfl, b2⟩
          have hB3 := Lib.hid (hB2.out.trans (b2.mono (by rw [hsz2]; omega)))
          have hbk3 := Lib.hid ((b2.block w.heap.size (by rw [hsz2]; omega)).trans HBK.out)
          have hit3 := Lib.hid ((b2.block (w.heap.size + 1) (by rw [hsz2]; omega)).trans HI2.out)
          clear DC b2 HBK HI2 hB2
          go_wp2
          go_roundw
          case rel => exact ⟨pos + q, by omega, rfl, hit3.out, hbk3.out, HVn, hB3⟩
          case measure =>
            have e2 := hit3.out
            have e1 := HIT.out
            simp only [World.iterPos, e2, e1]
            omega
        · have kD : ¬ ((D1 : Nat) : Int) = 65533 := by omega
          generalize pt (a :: r) = q at *
          clear hD hdr hl hX hit hbk hit2 hbk2 hB ha
          go_wp2
          go_roundw
          case rel => exact ⟨pos + q, by omega, rfl, HI2.out, HBK.out, HVn, hB2⟩
          case measure =>
            have e2 := HI2.out
            have e1 := HIT.out
            simp only [World.iterPos, e2, e1]
            omega
    · have hnx : ∀ ty, (Instr.next (.pointer (some ⟨w.heap.size + 1, 0, none⟩)) true ty).run Tryd.prog wr = _ := fun ty => Lib.run_next_end_at wr (w.heap.size + 1) s pos ty hit hlt
      have hVs : Vd s.data.toList := by
        have := hV.out
        rwa [List.take_of_length_le (by omega)] at this
      have HV := Lib.hid hVs
      have c1 : wr.cell? ⟨w.heap.size, 1, none⟩ = some (.slice none 0 0) := by
        unfold World.cell?
        simp [hbk]
      have CP := cap_any w.heap.size none 0 0 wr c1
      clear hVs hV
      go_wp2_with fail
      with_reducible refine CP.mono ?_
      rintro e w1 ⟨rfl, hw⟩
      obtain rfl := hw.symm
      go_wp2
      go_ret
      exact ⟨⟨s, rfl, HV.out, Nat.le_refl _⟩, hB.out⟩
end Go.Proofs.YtmiibffbakbklaaDoor
