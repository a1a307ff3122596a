/-
  What the laws' 'same' and 'made' do: a set of the program's and the document's, with the same numbers.
-/
import Derived.Test.YtooehfjappckmaaDoorDocWalks
import Derived.Test.YtooehfjappckmaaDoorListWalks
import Derived.Test.YtooehfjappckmaaDoorWithoutWalks
import Derived.Test.YtooehfjappckmaaDoorBitFrame
namespace Go.Proofs.YtooehfjappckmaaDoor
set_option maxRecDepth 100000
open Go.RowKit

set_option maxHeartbeats 2000000 in
theorem same_any (n : Nat) (p : Nat → Bool) (x y : Option Addr) (c d : Nat) (w : World) (h : SetAt w n p x c) (k : BoolsAt w y d n p) (hL : LibOk w) :
    Calls Tryd.prog 20 #[.agg #[.int .i64 n, .slice x (nw n) c], .slice y n d] w fun e w' => e = .returned (.bool true) ∧ Below w.heap.size w w' := by
  have hle := h.le
  have LI := list_any n x c p _ (h.below (one_below w (.cells #[.int .i64 n, .slice x (nw n) c] 25))) (hL.below (one_below _ _))
  have RL := fun W hW => rlist_any y d n p hle W hW
  have SI := fun s W => size_any n s W
  have CO := fun W hW => count_any (.int .i64 n) n x c p W hW
  have hll := lst_len p n
  have hcn := cnt_le p n
  have HX := Lib.hid (sbox_new w (.int .i64 n) (.slice x (nw n) c) 25)
  have HS := Lib.hid (h.below (one_below w (.cells #[.int .i64 n, .slice x (nw n) c] 25)))
  have HK := Lib.hid (k.below (one_below w (.cells #[.int .i64 n, .slice x (nw n) c] 25)))
  have HB := Lib.hid (one_below w (.cells #[.int .i64 n, .slice x (nw n) c] 25))
  have HLT : Hid (∀ i, i < (lst p n).length → (lst p n).getD i 0 < n) := fun i hi => lst_at hi
  rw [← hll] at CO
  generalize lst p n = L at *
  have hLn : L.length ≤ n := by omega
  clear h k hL hll hcn
  go_enter Tryd.func20, Tryd.ntmps20
  go_wp2_with fail
  with_reducible refine LI.mono ?_
  rintro e w1 ⟨⟨a1, c1, rfl, N1⟩, b1⟩
  have HX1 := Lib.hid (HX.out.next b1)
  have HS1 := Lib.hid (HS.out.below b1)
  have HN1 := Lib.hid N1
  have HB1 := Lib.hid (on HB.out b1)
  have RL1 := RL _ (HK.out.below b1)
  clear b1 LI HX HS HK HB N1 RL
  go_wp2_with fail
  with_reducible refine RL1.mono ?_
  rintro e w2 ⟨⟨a2, c2, rfl, N2⟩, b2⟩
  have HX2 := Lib.hid (HX1.out.next b2)
  have HS2 := Lib.hid (HS1.out.below b2)
  have HN1 := Lib.hid (HN1.out.below b2)
  have HN2 := Lib.hid N2
  have HB2 := Lib.hid (on HB1.out b2)
  obtain ⟨x0, x1, x2, x3, x4⟩ := HX2.out
  clear b2 RL1 HX1 HS1 HB1 N2
  go_wp2_with fail
  with_reducible refine (SI _ _).mono ?_
  rintro e w3 ⟨rfl, b3⟩
  have HX3 := Lib.hid (HX2.out.next b3)
  have CO3 := CO _ (HS2.out.below b3)
  have HN1 := Lib.hid (HN1.out.below b3)
  have HN2 := Lib.hid (HN2.out.below b3)
  have HB3 := Lib.hid (on HB2.out b3)
  clear x0 x1 x2 x3 x4
  obtain ⟨x0, x1, x2, x3, x4⟩ := HX3.out
  clear b3 SI HX2 HS2 HB2 CO
  go_wp2_with fail
  with_reducible refine CO3.mono ?_
  rintro e w4 ⟨rfl, b4⟩
  have HN1 := Lib.hid (HN1.out.below b4)
  have HN2 := Lib.hid (HN2.out.below b4)
  have HB4 := Lib.hid (on HB3.out b4)
  obtain ⟨q1, q2⟩ := HN1.out.cap_ok
  obtain ⟨q3, q4⟩ := HN2.out.cap_ok
  unfold maxLen at q2 q4
  clear x0 x1 x2 x3 x4 b4 CO3 HX3 HB3
  go_wp2
  go_loopw [33] (fun i wr => ∃ k : Nat, k ≤ L.length ∧ i = .int .i64 k ∧ Below w4.heap.size w4 wr) (fun i _ => L.length - (intOf i).toNat)
  case atStart => exact ⟨0, by omega, rfl, Below.refl _ _⟩
  case round =>
    obtain ⟨k, hk, rfl, hB⟩ := hrel
    by_cases hlt : k < L.length
    · obtain ⟨b1, rfl, _, g1⟩ := (HN1.out.below hB).at hlt
      obtain ⟨b2, rfl, _, g2⟩ := (HN2.out.below hB).at hlt
      have hv := HLT k hlt
      generalize L.getD k 0 = v at *
      have HBk := Lib.hid hB
      clear hB
      go_wp2
      go_quiet (fail)
      go_wp2
      go_roundw
      case rel => exact ⟨k + 1, by omega, by go_num, below_drewN HBk.out _⟩
      case measure => simp [intOf]; omega
    · obtain rfl : k = L.length := by omega
      have HBk := Lib.hid (on HB4.out hB)
      clear hB
      go_wp2
      go_ret
      exact ⟨rfl, HBk.out⟩

/-- The slice (x, len) has the first len of zs for its elements. -/
structure Nums (w : World) (x : Option Addr) (len : Nat) (zs : List Int) : Prop where
  mk ::
  ok : ∀ i, i < len → I64 (zs.getD i 0)
  at_ : 0 < len → ∃ b off, x = some ⟨b, off, none⟩ ∧ b < w.heap.size ∧ ∀ i, i < len → w.cell? ⟨b, off + i, none⟩ = some (.int .i64 (zs.getD i 0))
theorem Nums.below {w w' : World} {x : Option Addr} {len : Nat} {zs : List Int} (h : Nums w x len zs) (hb : Below w.heap.size w w') : Nums w' x len zs := by
  refine ⟨h.ok, fun h0 => ?_⟩
  obtain ⟨b, off, h1, h2, h3⟩ := h.at_ h0
  exact ⟨b, off, h1, Nat.lt_of_lt_of_le h2 hb.size, fun i hi => by rw [hb.cell (by exact h2)]; exact h3 i hi⟩
theorem nums_of {w : World} {a : Option Addr} {len cap L : Nat} {zs : List Int} (h : IsRow w a len cap zs) (hL : L ≤ len) : Nums w a L zs := by
  rcases h with ⟨rfl, rfl, rfl, rfl⟩ | ⟨x, rfl, h1, h2, h3, h4, h5⟩
  · exact ⟨fun i hi => by omega, fun h0 => by omega⟩
  · refine ⟨fun i hi => ?_, fun h0 => ?_⟩
    · rw [List.getD_eq_getElem?_getD, List.getElem?_eq_getElem (by omega)]
      exact h5 _ (List.getElem_mem _)
    · obtain ⟨b, off, rfl, hc⟩ := ints_at h4 (by omega)
      exact ⟨b, off, rfl, World.block_lt_of_cell? _ _ (hc 0 (by omega)), fun i hi => hc i (by omega)⟩
theorem row_cap {w : World} {a : Option Addr} {len cap : Nat} {zs : List Int} (h : IsRow w a len cap zs) : len ≤ cap ∧ cap ≤ maxLen := by
  rcases h with ⟨rfl, rfl, rfl, rfl⟩ | ⟨x, rfl, h1, h2, h3, h4, h5⟩
  · simp
  · exact ⟨h1, h2⟩

/-- A store into a variable that holds a set leaves words and truths as they are. -/
theorem SetAt.stored {w : World} {n b : Nat} {p : Nat → Bool} {x : Option Addr} {cap : Nat} {z : Int} {u v : Value} (h : SetAt w n p x cap) (hc : w.cell? ⟨b, 0, none⟩ = some (.int .i64 z)) : SetAt ((w.setCell ⟨b, 0, none⟩ u).setCell ⟨b, 1, none⟩ v) n p x cap := by
  refine ⟨h.le, h.out, ?_⟩
  rcases h.words with h | ⟨g, h1, h2, h3, h4, h5⟩
  · exact .inl h
  · refine .inr ⟨g, h1, by simpa [World.setCell] using h2, h3, h4, fun i hi => ?_⟩
    have hne : g ≠ b := by
      rintro rfl
      have h0 := h5 0 (by omega)
      rw [hc] at h0
      simp at h0
    rw [World.cell?_of_block (w := w) (a := ⟨g, i, none⟩) (heap_store w u v hne)]
    exact h5 i hi
theorem BoolsAt.stored {w : World} {n b : Nat} {p : Nat → Bool} {x : Option Addr} {cap : Nat} {z : Int} {u v : Value} (h : BoolsAt w x cap n p) (hc : w.cell? ⟨b, 0, none⟩ = some (.int .i64 z)) : BoolsAt ((w.setCell ⟨b, 0, none⟩ u).setCell ⟨b, 1, none⟩ v) x cap n p := by
  rcases h with h | ⟨g, h1, h2, h3, h4, h5⟩
  · exact .inl h
  · refine .inr ⟨g, h1, by simpa [World.setCell] using h2, h3, h4, fun i hi => ?_⟩
    have hne : g ≠ b := by
      rintro rfl
      have h0 := h5 0 (by omega)
      rw [hc] at h0
      simp at h0
    rw [World.cell?_of_block (w := w) (a := ⟨g, i, none⟩) (heap_store w u v hne)]
    exact h5 i hi

/-- The size that 'made' makes of a number. -/
def sz (a : Int) : Nat := (max 0 a % 200).toNat
theorem sz_lt (a : Int) : sz a < 200 := by unfold sz; omega
theorem sz_eq (a : Int) : max 0 a % 200 = (sz a : Int) := by unfold sz; omega

/-- Both sets, in two variables: the program's in block b, the document's as a slice. -/
structure Both (n b : Nat) (y : Option Addr) (d : Nat) (p : Nat → Bool) (w : World) : Prop where
  mk ::
  box : ∃ x c, SBox b (.int .i64 n) (.slice x (nw n) c) w ∧ SetAt w n p x c
  doc : BoolsAt w y d n p

theorem Both.next {n b : Nat} {y : Option Addr} {d : Nat} {p : Nat → Bool} {w w' : World} (h : Both n b y d p w) (hb : Below w.heap.size w w') : Both n b y d p w' := by
  obtain ⟨⟨x, c, h1, h2⟩, h3⟩ := h
  exact ⟨⟨x, c, h1.next hb, h2.below hb⟩, h3.below hb⟩
theorem bl_false (n : Nat) : bl (fun _ => false) n = List.replicate n (.bool false) := by
  induction n with
  | zero => rfl
  | succ n ih => rw [bl, ih, List.replicate_succ']
theorem made_row (w : World) (n : Nat) (hn : n ≤ 4096) : BoolsAt (w.alloc (.cells (madeCells #[.bool false] n) 4)) (some ⟨w.heap.size, 0, none⟩) n n (fun _ => false) := by
  have := World.ownsRow_lit (base := w.heap.size) (e := 4) (size := 1) w (madeCells #[.bool false] n) n (Nat.le_refl _) (by unfold maxLen; omega) (by simp [madeCells])
  rw [toList_madeCells_one, ← bl_false] at this
  obtain ⟨x, cap, h1, h2⟩ := bools_of_owns this
  injection h1 with h1 h3 h4
  subst h1 h4
  exact h2

set_option maxHeartbeats 4000000 in
theorem made_any (a : Int) (x : Option Addr) (len cap : Nat) (zs : List Int) (w : World) (ha : I64 a) (hl : len ≤ cap) (hc : cap ≤ maxLen) (hN : ∀ L, L ≤ len → Nums w x L zs) :
    Calls Tryd.prog 15 #[.int .i64 a, .slice x len cap] w fun e w' => (∃ p s c y d, e = .returned (.tuple #[.agg #[.int .i64 (sz a), .slice s (nw (sz a)) c], .slice y (sz a) d]) ∧ SetAt w' (sz a) p s c ∧ BoolsAt w' y d (sz a) p) ∧ Below w.heap.size w w' := by
  obtain ⟨a0, a1⟩ := ha
  unfold maxLen at hc
  have hz := sz_eq a
  have hzl := sz_lt a
  generalize sz a = n at *
  obtain ⟨L, hL, hL1, hL2⟩ : ∃ L : Nat, min (len : Int) 100 = (L : Int) ∧ L ≤ len ∧ L ≤ 100 := ⟨min len 100, by omega, by omega, by omega⟩
  have HN := Lib.hid (hN L hL1)
  have NW := new_good n (by omega)
  have hmk := run_make_row' (P := Tryd.prog) 33 4 (.bool false) 1 Tryd.underlying33 infoB rfl .i64 .i64 n (by omega) (by omega)
  have WI := fun i p x c W hW => with_any n x c p i W hW
  have RW := fun i p y d W hW => rwith_any y d n p (by omega) i true W hW
  clear hN
  go_enter Tryd.func15, Tryd.ntmps15
  go_wp2_with fail
  with_reducible refine (NW _).mono ?_
  rintro e w1 ⟨⟨s1, c1, rfl, S1⟩, b1⟩
  have R1 := Lib.hid ((sbox_new w (.int .i64 0) (.slice none 0 0) 25).next b1)
  have HS1 := Lib.hid S1
  have HB1 := Lib.hid (on (one_below w _) b1)
  have hs1 := HB1.out.size
  have hs2 := R1.out.size
  clear b1 S1 NW
  go_wp2
  go_loopw [8, 27] (fun t i wr => ∃ (k : Nat) (p : Nat → Bool) (y : Option Addr) (d : Nat), k ≤ L ∧ i = .int .i64 k ∧ t = .slice y n d ∧ Both n w1.heap.size y d p wr ∧ SBox w.heap.size (.int .i64 0) (.slice none 0 0) wr ∧ Below w.heap.size w wr) (fun _ i _ => L - (intOf i).toNat)
  case atStart =>
    have hb2 := (one_below (w1.alloc (.cells #[.int .i64 n, .slice s1 (nw n) c1] 25)) (.cells (madeCells #[.bool false] n) 4))
    have hb1 := one_below w1 (.cells #[.int .i64 n, .slice s1 (nw n) c1] 25)
    have hm := made_row (w1.alloc (.cells #[.int .i64 n, .slice s1 (nw n) c1] 25)) n (by omega)
    rw [World.size_alloc] at hm
    exact ⟨0, _, _, _, by omega, rfl, rfl, ⟨⟨_, _, (sbox_new w1 _ _ _).next hb2, (HS1.out.below hb1).below hb2⟩, hm⟩, (R1.out.next hb1).next hb2, on (on HB1.out hb1) hb2⟩
  case round =>
    obtain ⟨k, p, y, d, hk, rfl, rfl, hBo, hR, hB⟩ := hrel
    obtain ⟨⟨s, c, T, S⟩, D⟩ := hBo
    by_cases hlt : k < L
    · obtain ⟨b, off, rfl, hb, hcell⟩ := (HN.out.below hB).at_ (by omega)
      have hck := hcell k hlt
      have hik := HN.out.ok k hlt
      generalize zs.getD k 0 = v at *
      obtain ⟨v0, v1⟩ := hik
      have W1 := WI v p s c wr S
      have HD := Lib.hid D
      have HT := Lib.hid T
      have HR := Lib.hid hR
      have HB := Lib.hid hB
      obtain ⟨t0, t1, t2, t3, t4⟩ := T
      clear hcell S D hR hB
      go_wp2_with fail
      with_reducible refine W1.mono ?_
      rintro e w2 ⟨⟨s2, c2, rfl, S2⟩, b2⟩
      have W2 := RW v p y d w2 (HD.out.below b2)
      have HT2 := Lib.hid (HT.out.next b2)
      have HS2 := Lib.hid S2
      have HR2 := Lib.hid (HR.out.next b2)
      have HB2 := Lib.hid (on HB.out b2)
      clear b2 S2 W1 HD HT HR HB t0 t1 t2 t3 t4 hck
      go_wp2_with fail
      with_reducible refine W2.mono ?_
      rintro e w3 ⟨⟨y3, d3, rfl, D3⟩, b3⟩
      have T3 := HT2.out.next b3
      have HT3 := Lib.hid T3
      have HS3 := Lib.hid (HS2.out.below b3)
      have HD3 := Lib.hid D3
      have HR3 := Lib.hid (HR2.out.next b3)
      have HB3 := Lib.hid (on HB2.out b3)
      obtain ⟨t0, t1, t2, t3, t4⟩ := T3
      clear b3 D3 W2 HT2 HS2 HR2 HB2
      go_wp2
      go_roundw
      case rel =>
        refine ⟨k + 1, put n p v true, y3, d3, by omega, by go_num, rfl, ⟨⟨s2, c2, HT3.out.store, ?_⟩, ?_⟩, HR3.out.kept (heap_store _ _ _ (by omega)), store_below HB3.out (by omega) _ _⟩
        · exact SetAt.stored HS3.out t0
        · exact BoolsAt.stored HD3.out t0
      case measure => simp [intOf]; omega
    · obtain rfl : k = L := by omega
      have HD := Lib.hid D
      have HS := Lib.hid S
      have HB := Lib.hid hB
      obtain ⟨t0, t1, t2, t3, t4⟩ := T
      obtain ⟨r0, r1, r2, r3, r4⟩ := hR
      clear S D hB
      go_wp2
      exact bodyPost_ret (v := .tuple #[.agg #[.int .i64 n, .slice s (nw n) c], .slice y n d]) (by simp [results, Tryd.results15, go_sem, r0, r1]) rfl
        ⟨⟨p, s, c, y, d, rfl, SetAt.stored HS.out r0, BoolsAt.stored HD.out r0⟩, store_below HB.out (Nat.le_refl _) _ _⟩
end Go.Proofs.YtooehfjappckmaaDoor
