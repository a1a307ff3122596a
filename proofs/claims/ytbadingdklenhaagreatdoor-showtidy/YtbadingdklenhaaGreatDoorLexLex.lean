/-
  What package lex's Lex does at every text.
-/
import Derived.Test.YtbadingdklenhaaGreatDoorLexTok
import Derived.Lib.OthersKept
import Derived.Deep.Onto
namespace Go.Proofs.YtbadingdklenhaaGreatDoor
set_option maxRecDepth 100000
open Go.RowKit

theorem clone_any (s : ByteArray) (hs : s.size ≤ 281474976710656) (w : World) :
    Calls Tryz.prog 60 #[.string s] w fun e w' => e = .returned (.string s) ∧ Below w.heap.size w w' := by
  have C := fun W => Tryz.stringslite_Clone s W hs
  go_enter Tryz.func60, Tryz.ntmps60
  go_wp2_with fail
  with_reducible refine (C _).mono ?_
  rintro e w1 ⟨rfl, b1⟩
  go_wp2
  go_ret
  exact ⟨rfl, b1⟩

theorem infoT : (Tryz.prog.info? 122).map (fun i => (i.zero, i.size, i.bytes)) = some (some (.agg #[.int .i64 0, .string ⟨#[]⟩, .int .i64 0, .int .i64 0, .int .i64 0]), 5, 48) := by kernel_rfl

/-! ### a list of tokens -/
def cells5 (x : Tk) : List Value := [.int .i64 (x.kind : Nat), .string ⟨x.text.toArray⟩, .int .i64 x.n, .int .i64 (x.line : Nat), .int .i64 (x.col : Nat)]
def flatT : List Tk → List Value
  | [] => []
  | x :: l => cells5 x ++ flatT l
theorem flatT_app : ∀ (l m : List Tk), flatT (l ++ m) = flatT l ++ flatT m
  | [], _ => rfl
  | x :: l, m => by show cells5 x ++ flatT (l ++ m) = cells5 x ++ flatT l ++ flatT m; rw [flatT_app l m, List.append_assoc]
theorem flatT_one (x : Tk) : flatT [x] = cells5 x := by show cells5 x ++ [] = _; rw [List.append_nil]

theorem own_frame {w w' : World} {base : Nat} {e : TypeId} {size n : Nat} {v : Value} {xs : List Value} (h : w.ownsRow base e size v n xs) (hk : ∀ g, base ≤ g → g < w.heap.size → w'.heap[g]? = w.heap[g]?) : w'.ownsRow base e size v n xs := by
  refine ⟨h.1, ?_⟩
  rcases h.2 with h2 | ⟨g, cap, cur, hv, hb, hg, rest⟩
  · exact .inl h2
  · exact .inr ⟨g, cap, cur, hv, hb, (hk g hb (Array.getElem?_eq_some_iff.1 hg).1).trans hg, rest⟩

/-- What stands in a round of Lex: the iterator in block k, the place in block B + 1, the result's place in block B, the tokens. -/
structure LexAt (s : ByteArray) (B k : Nat) (w wr : World) (l : Value) (ts : List Tk) (pos : Nat) (line col : Nat) : Prop where
  mk ::
  it : wr.heap[k]? = some (.stringIter s pos)
  own : wr.ownsRow (k + 1) 122 5 l ts.length (flatT ts)
  a0 : wr.cell? ⟨B + 1, 0, none⟩ = some (.int .i64 (line : Nat))
  a1 : wr.cell? ⟨B + 1, 1, none⟩ = some (.int .i64 (col : Nat))
  fa0 : wr.frozen? ⟨B + 1, 0, none⟩ = false
  fa1 : wr.frozen? ⟨B + 1, 1, none⟩ = false
  p0 : wr.cell? ⟨B, 0, none⟩ = some (.int .i64 0)
  p1 : wr.cell? ⟨B, 1, none⟩ = some (.int .i64 0)
  fp0 : wr.frozen? ⟨B, 0, none⟩ = false
  fp1 : wr.frozen? ⟨B, 1, none⟩ = false
  bel : Below B w wr
  lt : B + 1 < k
  klt : k < wr.heap.size
theorem cell_other {w w' : World} {g : Nat} (h : w'.heap[g]? = w.heap[g]?) (j : Nat) : w'.cell? ⟨g, j, none⟩ = w.cell? ⟨g, j, none⟩ ∧ w'.frozen? ⟨g, j, none⟩ = w.frozen? ⟨g, j, none⟩ := by
  unfold World.cell? World.frozen?
  simp only [h]
  exact ⟨trivial, trivial⟩
section
variable {s : ByteArray} {B k : Nat} {w wr w' : World} {l : Value} {ts : List Tk} {pos line col : Nat}
theorem LexAt.next (h : LexAt s B k w wr l ts pos line col) (pos' : Nat) : LexAt s B k w (wr.iterAt k s pos') l ts pos' line col := by
  have e1 := fun g (hg : g ≠ k) => Lib.iterAt_other wr k g s pos' hg
  have hlt := h.lt
  have hk := h.klt
  have cA := fun j => cell_other (e1 (B + 1) (by omega)) j
  have cB := fun j => cell_other (e1 B (by omega)) j
  exact ⟨Lib.iterAt_heap wr k s pos pos' h.it, own_frame h.own (fun g hg _ => e1 g (by omega)), (cA 0).1.trans h.a0, (cA 1).1.trans h.a1, (cA 0).2.trans h.fa0, (cA 1).2.trans h.fa1,
    (cB 0).1.trans h.p0, (cB 1).1.trans h.p1, (cB 0).2.trans h.fp0, (cB 1).2.trans h.fp1, Lib.below_iterAt h.bel (by omega) s pos', hlt, by rw [Lib.iterAt_size]; exact hk⟩
theorem LexAt.on (h : LexAt s B k w wr l ts pos line col) (hb : Below wr.heap.size wr w') : LexAt s B k w w' l ts pos line col := by
  have e1 := fun g (hg : g < wr.heap.size) => hb.block g hg
  have hlt := h.lt
  have hk := h.klt
  have cA := fun j => cell_other (e1 (B + 1) (by omega)) j
  have cB := fun j => cell_other (e1 B (by omega)) j
  exact ⟨(e1 k hk).trans h.it, own_frame h.own (fun g _ hg => e1 g hg), (cA 0).1.trans h.a0, (cA 1).1.trans h.a1, (cA 0).2.trans h.fa0, (cA 1).2.trans h.fa1,
    (cB 0).1.trans h.p0, (cB 1).1.trans h.p1, (cB 0).2.trans h.fp0, (cB 1).2.trans h.fp1, h.bel.trans (hb.mono (by omega)), hlt, by have := hb.size; omega⟩
theorem LexAt.place (h : LexAt s B k w wr l ts pos line col) (line' col' : Nat) : LexAt s B k w ((wr.setCell ⟨B + 1, 0, none⟩ (.int .i64 (line' : Nat))).setCell ⟨B + 1, 1, none⟩ (.int .i64 (col' : Nat))) l ts pos line' col' := by
  have hlt := h.lt
  have hk := h.klt
  have e1 : ∀ g, g ≠ B + 1 → ((wr.setCell ⟨B + 1, 0, none⟩ (.int .i64 (line' : Nat))).setCell ⟨B + 1, 1, none⟩ (.int .i64 (col' : Nat))).heap[g]? = wr.heap[g]? := fun g hg =>
    (Below.heap_setCell _ ⟨B + 1, 1, none⟩ _ g hg).trans (Below.heap_setCell _ ⟨B + 1, 0, none⟩ _ g hg)
  have cB := fun j => cell_other (e1 B (by omega)) j
  have a0 := h.a0
  have a1 := h.a1
  have fa0 := h.fa0
  have fa1 := h.fa1
  exact ⟨(e1 k (by omega)).trans h.it, own_frame h.own (fun g hg _ => e1 g (by omega)), by simp [go_sem, a0], by simp [go_sem, a1], by simp [go_sem, fa0], by simp [go_sem, fa1],
    (cB 0).1.trans h.p0, (cB 1).1.trans h.p1, (cB 0).2.trans h.fp0, (cB 1).2.trans h.fp1, by refine Below.setCell (Below.setCell h.bel ?_ _) ?_ _ <;> simp, hlt, by simp; exact hk⟩
/-- Behind an append to the tokens. -/
theorem LexAt.grow {l' : Value} {x : Tk} {o : Obj} (h : LexAt s B k w wr l ts pos line col) (hg : (wr.alloc o).grownBy w' l.ownBlock) (hown : w'.ownsRow (k + 1) 122 5 l' (ts.length + 1) (flatT ts ++ cells5 x)) : LexAt s B k w w' l' (ts ++ [x]) pos line col := by
  have hlt := h.lt
  have hk := h.klt
  have e1 : ∀ g, g ≤ k → w'.heap[g]? = wr.heap[g]? := fun g hgk => by
    refine (hg.block g (by simp; omega) ?_).trans (Below.heap_alloc wr o g (by omega))
    intro he
    have := (h.own.lt g he.symm).1
    omega
  have cA := fun j => cell_other (e1 (B + 1) (by omega)) j
  have cB := fun j => cell_other (e1 B (by omega)) j
  refine ⟨(e1 k (by omega)).trans h.it, ?_, (cA 0).1.trans h.a0, (cA 1).1.trans h.a1, (cA 0).2.trans h.fa0, (cA 1).2.trans h.fa1,
    (cB 0).1.trans h.p0, (cB 1).1.trans h.p1, (cB 0).2.trans h.fp0, (cB 1).2.trans h.fp1, ?_, hlt, ?_⟩
  · rw [flatT_app, flatT_one, List.length_append]
    exact hown
  · exact (h.bel.alloc (by omega) o).grown hg (by simp; omega) (fun g he => by have := (h.own.lt g he).1; omega)
  · have := hg.size
    simp at this
    omega
end

theorem pre_pre (a b : List Tk) (r : Rs) : Rs.pre a (Rs.pre b r) = Rs.pre (a ++ b) r := by
  unfold Rs.pre
  by_cases h : r.err = 0
  · rw [if_pos h, if_pos h, if_pos h]
    simp
  · rw [if_neg h, if_neg h, if_neg h]
theorem pre_bad (a : List Tk) {line col e : Nat} (he : e ≠ 0) : Rs.pre a (Rs.bad line col e) = Rs.bad line col e := by
  unfold Rs.pre
  exact if_neg he
theorem psd_le (a : UInt8) (r : List UInt8) : psd (a :: r) ≤ (a :: r).length := by
  unfold psd
  simp only
  split
  · simp
  · split
    · have := take_drop_len (· != 10) (a :: r)
      omega
    · omega

/-- What a Lex gives: the document's answer. -/
def IsRs (w : World) (r : Rs) (t : TypeId) (e : Ending) (w' : World) : Prop :=
  ∃ v, e = .returned (.tuple #[v, .agg #[.int .i64 (r.line : Nat), .int .i64 (r.col : Nat)], .int .i64 (r.err : Nat)]) ∧ w'.ownsRow w.heap.size t 5 v r.toks.length (flatT r.toks) ∧ Below w.heap.size w w'

theorem lexAt_start (s : ByteArray) (w w1 : World) (b1 : Below ((w.alloc (.cells #[.int .i64 0, .int .i64 0] 52)).alloc (.cells #[.int .i64 1, .int .i64 1] 52)).heap.size ((w.alloc (.cells #[.int .i64 0, .int .i64 0] 52)).alloc (.cells #[.int .i64 1, .int .i64 1] 52)) w1) :
    LexAt s w.heap.size w1.heap.size w (w1.alloc (.stringIter s 0)) (.slice none 0 0) [] 0 1 1 := by
  have hz := b1.size
  simp only [World.size_alloc] at hz
  have bA := b1.block (w.heap.size + 1) (by simp)
  have bB := b1.block w.heap.size (by simp; omega)
  have cA := fun j => cell_other ((Below.heap_alloc w1 (.stringIter s 0) (w.heap.size + 1) (by omega)).trans bA) j
  have cB := fun j => cell_other ((Below.heap_alloc w1 (.stringIter s 0) w.heap.size (by omega)).trans bB) j
  refine ⟨heap_alloc_new _ _, World.ownsRow_nil _ _ _ _, (cA 0).1.trans ?_, (cA 1).1.trans ?_, (cA 0).2.trans ?_, (cA 1).2.trans ?_, (cB 0).1.trans ?_, (cB 1).1.trans ?_, (cB 0).2.trans ?_, (cB 1).2.trans ?_, ?_, by omega, by simp⟩
  all_goals try (simp [go_sem]; done)
  exact ((((Below.refl _ w).alloc (Nat.le_refl _) _).alloc (by simp) _).trans (b1.mono (by simp; omega))).alloc (by omega) _
theorem drop_at {s : ByteArray} {pos : Nat} (h : pos < s.size) : ∃ a r, s.data.toList.drop pos = a :: r ∧ s.get! pos = a := by
  have hl := size_list s
  refine ⟨s.data.toList[pos]'(by omega), s.data.toList.drop (pos + 1), List.drop_eq_getElem_cons (by omega), ?_⟩
  have h2 := get_list s pos h
  rw [List.getElem?_eq_getElem (by omega)] at h2
  exact (Option.some.inj h2).symm
theorem extract_rest (s : ByteArray) (pos : Nat) : (s.extract pos s.size).data.toList = s.data.toList.drop pos := by
  rw [ByteArray.data_extract, Array.toList_extract]
  have hl := size_list s
  rw [List.extract_eq_take_drop, List.take_of_length_le]
  rw [List.length_drop]
  omega
theorem broken_yes {s : ByteArray} {pos : Nat} {a : UInt8} {r : List UInt8} (hlt : pos < s.size) (hl : s.data.toList.drop pos = a :: r) (h0 : pt (a :: r) = 0) :
    Utf8.decode s pos = (65533, 1) ∧ ((65533 : Int) == 65533 && !(Lib.hasPrefix (s.extract pos s.size).data.toList [239, 191, 189])) = true := by
  have h := decode_no s pos hlt (by rw [hl]; exact h0)
  refine ⟨h.1, ?_⟩
  rw [extract_rest, h.2]
  rfl
theorem broken_no {s : ByteArray} {pos : Nat} {a : UInt8} {r : List UInt8} (hlt : pos < s.size) (hl : s.data.toList.drop pos = a :: r) (ha : s.get! pos = a) (h0 : pt (a :: r) ≠ 0) :
    ∃ D1, Utf8.decode s pos = (D1, pt (a :: r)) ∧ (((D1 : Nat) : Int) == 65533 && !(Lib.hasPrefix (s.extract pos s.size).data.toList [239, 191, 189])) = false ∧ (((D1 : Nat) : Int) = 10 ↔ a = 10) ∧
      pos + pt (a :: r) ≤ s.size ∧ s.data.toList.drop (pos + pt (a :: r)) = r.drop (pt (a :: r) - 1) ∧ 1 ≤ pt (a :: r) := by
  have h := decode_yes s pos hlt (by rw [hl]; exact h0)
  rw [hl, ha] at h
  obtain ⟨h1, h2, h3⟩ := h
  refine ⟨(Utf8.decode s pos).1, by rw [← h1], ?_, ?_, ?_, ?_, by omega⟩
  · rw [extract_rest, hl]
    by_cases hd : (Utf8.decode s pos).1 = 65533
    · rw [h2 hd]; simp
    · have : ((((Utf8.decode s pos).1 : Nat) : Int) == 65533) = false := by simp; omega
      rw [this]; rfl
  · have e : (((Utf8.decode s pos).1 : Nat) : Int) = 10 ↔ (Utf8.decode s pos).1 = 10 := by omega
    rw [e, h3]
    constructor
    · intro h4
      have : a = UInt8.ofNat 10 := by rw [← h4]; simp
      exact this
    · rintro rfl; rfl
  · have h4 := (pt_bytes h0).1
    have h5 := size_list s
    have h6 : (s.data.toList.drop pos).length = s.data.toList.length - pos := List.length_drop
    rw [hl] at h6
    omega
  · rw [← List.drop_drop, hl, ← drop_cons (by omega)]
/-- What behind answers, said by the byte. -/
theorem behind_byte (a : UInt8) (line col D1 : Nat) (hD : ((D1 : Nat) : Int) = 10 ↔ a = 10) (h1 : line ≤ 4294967296) (h2 : col ≤ 4294967296) (w : World) :
    Calls Tryz.prog 64 #[.agg #[.int .i64 line, .int .i64 col], .int .i32 (D1 : Nat)] w fun e w' => e = .returned (.agg #[.int .i64 (bl a line : Nat), .int .i64 (bc a col : Nat)]) ∧ Below w.heap.size w w' := by
  have h := behind_any line col (D1 : Nat) h1 h2 w
  have e1 : (if ((D1 : Nat) : Int) = 10 then line + 1 else line) = bl a line := if_same hD rfl rfl
  have e2 : (if ((D1 : Nat) : Int) = 10 then 1 else col + 1) = bc a col := if_same hD rfl rfl
  rw [e1, e2] at h
  exact h
theorem bl_le (a : UInt8) {line p q : Nat} (h : line ≤ p + 1) (hq : 1 ≤ q) : bl a line ≤ p + q + 1 := by unfold bl; split <;> omega
theorem bc_le (a : UInt8) {col p q : Nat} (h : col ≤ p + 1) (hq : 1 ≤ q) : bc a col ≤ p + q + 1 := by unfold bc; split <;> omega

theorem lit5 (w : World) (a b c d e : Value) (t : TypeId) : ∀ j u, [a, b, c, d, e][j]? = some u → (w.alloc (.cells #[a, b, c, d, e] t)).cell? ((⟨w.heap.size, 0, none⟩ : Addr).add j) = some u := by
  intro j u hj
  match j, hj with
  | 0, hj => simp at hj; subst hj; simp [Addr.add, go_sem]
  | 1, hj => simp at hj; subst hj; simp [Addr.add, go_sem]
  | 2, hj => simp at hj; subst hj; simp [Addr.add, go_sem]
  | 3, hj => simp at hj; subst hj; simp [Addr.add, go_sem]
  | 4, hj => simp at hj; subst hj; simp [Addr.add, go_sem]
theorem one5 (k n l c : Int) (t : ByteArray) : ∀ u ∈ [Value.int .i64 k, .string t, .int .i64 n, .int .i64 l, .int .i64 c], u.oneCell' = true := by
  intro u hu
  simp at hu
  rcases hu with rfl | rfl | rfl | rfl | rfl <;> rfl

/-- P8.1, for the program: what Lex does at every text. -/
theorem lex_long (s : ByteArray) (h : 1048576 < s.size) (w : World) : Calls Tryz.prog 33 #[.string s] w (IsRs w (lexP s.data.toList) 122) := by
  have e : lexP s.data.toList = Rs.bad 1 1 7 := by unfold lexP; rw [if_pos (by rw [size_list]; exact h)]
  rw [e]
  have h' : (1048576 : Int) < (s.size : Int) := by omega
  clear e h
  go_enter Tryz.func33, Tryz.ntmps33
  go_wp2
  go_region
  all_goals
    go_wp2
    refine bodyPost_ret (v := .tuple #[.slice none 0 0, .agg #[.int .i64 1, .int .i64 1], .int .i64 7]) (by simp [results, Tryz.results33, go_sem]) rfl ⟨_, rfl, World.ownsRow_nil _ _ _ _, ?_⟩
    go_grown
set_option maxHeartbeats 4000000 in
theorem lex_short (s : ByteArray) (h : s.size ≤ 1048576) (w : World) (hL : LibOk w) : Calls Tryz.prog 33 #[.string s] w (IsRs w (lexP s.data.toList) 122) := by
  have e : lexP s.data.toList = lx s.data.toList 1 1 false := by unfold lexP; rw [if_neg (by rw [size_list]; omega)]
  have h' : (s.size : Int) ≤ 1048576 := by omega
  have ep : pl s.data.toList 0 1 1 = lx s.data.toList 1 1 false := (pl_lx _ _ (Nat.le_refl _) 1 1).1
  rw [e, ← ep]
  clear e ep
  have C := clone_any s (by omega)
  go_enter Tryz.func33, Tryz.ntmps33
  go_wp2_with fail
  with_reducible refine (C _).mono ?_
  rintro e w1 ⟨rfl, b1⟩
  go_wp2
  have hb1 := b1.size
  simp only [World.size_alloc] at hb1
  go_loopw [7, 8] (fun l nx wr => ∃ (pos line col : Nat) (n : Int) (ts : List Tk), pos ≤ s.size ∧ line ≤ pos + 1 ∧ col ≤ pos + 1 ∧ ts.length ≤ pos ∧ nx = .int .i64 n ∧ 0 ≤ n ∧ n ≤ (s.size : Int) ∧
    Hid (Rs.pre ts (pl (s.data.toList.drop pos) (n - pos) line col) = pl s.data.toList 0 1 1) ∧ Hid (LexAt s w.heap.size w1.heap.size w wr l ts pos line col)) (fun _ _ wr => s.size - wr.iterPos w1.heap.size)
  case atStart =>
    refine ⟨0, 1, 1, 0, [], by omega, by omega, by omega, by simp, rfl, by omega, by omega, ?_, ?_⟩
    · show _ = _
      unfold Rs.pre
      split
      · rfl
      · rfl
    · exact lexAt_start s w w1 b1
  case round =>
    obtain ⟨pos, line, col, n, ts, hp, hl1, hc1, ht, rfl, hn0, hn1, hQ, hA⟩ := hrel
    have hit := hA.out.it
    have HIT := Lib.hid hit
    by_cases hlt : pos < s.size
    · have hnx : ∀ ty, (Instr.next (.pointer (some ⟨w1.heap.size, 0, none⟩)) true ty).run Tryz.prog wr = _ := fun ty => Lib.run_next_any_at wr w1.heap.size s pos ty hit hlt
      obtain ⟨a, r, hl, ha⟩ := drop_at hlt
      by_cases h0 : pt (a :: r) = 0
      · obtain ⟨hD, hB⟩ := broken_yes hlt hl h0
        rw [hD] at hnx
        have IB := isBroken_any 65533 (s.extract pos s.size)
        rw [hB] at IB
        have hA2 := Lib.hid (hA.out.next (pos + 1))
        have hR := hQ.out
        rw [hl, pl_cons, if_pos h0, pre_bad ts (by omega)] at hR
        have hR2 := Lib.hid hR
        clear hR hA hit hQ hD hB hl ha h0
        go_wp2_with fail
        with_reducible refine (IB _).mono ?_
        rintro e w2 ⟨rfl, b2⟩
        have hA3 := Lib.hid (hA2.out.on b2)
        clear hA2 b2
        obtain ⟨it, own, a0, a1, fa0, fa1, p0, p1, fp0, fp1, bel, lt, klt⟩ := hA3.out
        have BE := Lib.hid bel
        clear own bel it hnx IB
        go_wp2
        go_region
        all_goals
          go_wp2
          refine bodyPost_ret (v := .tuple #[.slice none 0 0, .agg #[.int .i64 (line : Nat), .int .i64 (col : Nat)], .int .i64 20]) (by simp [results, Tryz.results33, go_sem, p0, p1]) rfl ?_
          rw [← hR2.out]
          refine ⟨_, rfl, World.ownsRow_nil _ _ _ _, ?_⟩
          have BB := BE.out
          go_grown
      · obtain ⟨D1, hD, hB, hD10, hle, hdr, hp1⟩ := broken_no hlt hl ha h0
        rw [hD] at hnx
        have IB := isBroken_any (D1 : Nat) (s.extract pos s.size)
        rw [hB] at IB
        have BH := behind_byte a line col D1 hD10 (by omega) (by omega)
        have hLn := bl_le a hl1 hp1
        have hCn := bc_le a hc1 hp1
        have hA2 := Lib.hid (hA.out.next (pos + pt (a :: r)))
        by_cases hn : n = (pos : Int)
        · have hX := extract_rest s pos
          rw [hl] at hX
          have hXs : (s.extract pos s.size).size + pos = s.size := by rw [ByteArray.size_extract]; omega
          have PS := passed_any (s.extract pos s.size) (by omega) (by omega)
          rw [hX] at PS
          have hps := psd_le a r
          have hlr : (a :: r).length + pos = s.size := by
            have h5 := size_list s
            have h6 : (s.data.toList.drop pos).length = s.data.toList.length - pos := List.length_drop
            rw [hl] at h6
            omega
          by_cases hpn : psd (a :: r) = 0
          · have FR := fun W hW => first_any (s.extract pos s.size) (by omega) (by omega) W hW
            rw [hpn] at PS
            by_cases htk : (tk (a :: r)).1 = 0
            · obtain ⟨i0, hi, hz0, hz1, hz2⟩ := info_parts infoT
              obtain ⟨hk1, hk2⟩ := tk_len htk
              have hV : firstV (s.extract pos s.size) = .tuple #[tokV ((tk (a :: r)).2.1 : Nat) ((s.extract pos s.size).extract 0 (tk (a :: r)).2.2.1) (tk (a :: r)).2.2.2 0 0, .int .i64 0] := by
                unfold firstV
                rw [hX, if_pos htk, htk]
                rfl
              have hY : (s.extract pos s.size).extract 0 (tk (a :: r)).2.2.1 = ⟨((a :: r).take (tk (a :: r)).2.2.1).toArray⟩ := ba_same (by rw [extract_list, hX])
              have hYs : ((s.extract pos s.size).extract 0 (tk (a :: r)).2.2.1).size = (tk (a :: r)).2.2.1 := by
                rw [ByteArray.size_extract]
                omega
              rw [hV] at FR
              have hR := hQ.out
              rw [hl, pl_cons, if_neg h0, if_pos (by omega), if_neg (by omega), if_neg (by omega), pre_pre, ← hdr, show (((tk (a :: r)).2.2.1 : Nat) : Int) - (pt (a :: r) : Nat) = ((pos : Int) + ((tk (a :: r)).2.2.1 : Nat)) - ((pos + pt (a :: r) : Nat) : Int) by omega] at hR
              have hG : ∀ (w5 w6 : World) (l' : Value) (o : Obj), LexAt s w.heap.size w1.heap.size w w5 u7 ts (pos + pt (a :: r)) line col → (w5.alloc o).grownBy w6 u7.ownBlock →
                  w6.ownsRow (w1.heap.size + 1) 122 5 l' (ts.length + 1) (flatT ts ++ [.int .i64 ((tk (a :: r)).2.1 : Nat), .string ((s.extract pos s.size).extract 0 (tk (a :: r)).2.2.1), .int .i64 (tk (a :: r)).2.2.2, .int .i64 (line : Nat), .int .i64 (col : Nat)]) →
                  LexAt s w.heap.size w1.heap.size w w6 l' (ts ++ [tkAt (a :: r) line col]) (pos + pt (a :: r)) line col := by
                intro w5 w6 l' o h1 h2 h3
                refine h1.grow (x := tkAt (a :: r) line col) h2 ?_
                unfold cells5 tkAt
                rw [← hY]
                exact h3
              have hG2 := Lib.hid hG
              have hR2 := Lib.hid hR
              have htl : ts.length ≤ 1048576 := by omega
              have hkl : pos + (tk (a :: r)).2.2.1 ≤ s.size := by omega
              generalize tkAt (a :: r) line col = X at *
              generalize (s.extract pos s.size).extract 0 (tk (a :: r)).2.2.1 = Y at *
              generalize ((tk (a :: r)).2.1 : Nat) = q1 at *
              generalize (tk (a :: r)).2.2.2 = q2 at *
              generalize (tk (a :: r)).2.2.1 = q3 at *
              generalize pt (a :: r) = q at *
              generalize bl a line = L at *
              generalize bc a col = C at *
              clear hG hR hA hit hQ hD hB hl ha h0 hdr hD10 hX hV hY htk hlr hpn hps hk2
              subst hn
              go_wp2_with fail
              with_reducible refine (IB _).mono ?_
              rintro e w2 ⟨rfl, b2⟩
              have hA3 := Lib.hid (hA2.out.on b2)
              clear hA2 b2 hnx IB
              go_wp2_with fail
              with_reducible refine (PS _).mono ?_
              rintro e w3 ⟨rfl, b3⟩
              have hA4 := Lib.hid (hA3.out.on b3)
              clear hA3 b3 PS
              have L4 : LibOk w3 := hL.below hA4.out.bel
              go_wp2_with fail
              with_reducible refine (FR _ L4).mono ?_
              rintro e w4 ⟨rfl, b4⟩
              have hA5 := Lib.hid (hA4.out.on b4)
              clear hA4 b4 FR L4
              have b5 := new_belowL w4 (.cells #[.int .i64 (q1 : Nat), .string Y, .int .i64 q2, .int .i64 0, .int .i64 0] 122)
              have b6 := new_belowL w4 (.cells #[.int .i64 (q1 : Nat), .string Y, .int .i64 q2, .int .i64 (line : Nat), .int .i64 (col : Nat)] 122)
              have hA6 := Lib.hid (hA5.out.on b6)
              have klt4 := hA5.out.klt
              obtain ⟨it, own, a0, a1, fa0, fa1, p0, p1, fp0, fp1, bel, lt, klt⟩ := hA5.out.on b5
              clear bel it own b5 b6
              unfold tokV
              go_wp2_with (at_builtin; go_loud (refine wpList_append_own _ rfl _ _ 96 rfl (w1.heap.size + 1) 122 i0 (.agg #[.int .i64 0, .string ⟨#[]⟩, .int .i64 0, .int .i64 0, .int .i64 0]) 5 48 Tryz.underlying96 hi hz0 hz1 hz2 rfl (by decide) _ _ _ rfl (hA6.out.own.alloc _) ⟨w4.heap.size + 1, 0, none⟩ 1 1 [.int .i64 (q1 : Nat), .string Y, .int .i64 q2, .int .i64 (line : Nat), .int .i64 (col : Nat)] rfl rfl ?d1 ?d2 ?d3 ?d4 ?d5 ?_))
              case d1 =>
                have := lit5 (w4.alloc (.cells #[.int .i64 (q1 : Nat), .string Y, .int .i64 q2, .int .i64 (line : Nat), .int .i64 (col : Nat)] 122)) (.int .i64 (q1 : Nat)) (.string Y) (.int .i64 q2) (.int .i64 (line : Nat)) (.int .i64 (col : Nat)) 122
                simpa using this
              case d2 => exact one5 _ _ _ _ _
              case d3 => unfold maxLen; omega
              case d4 => omega
              case d5 => simp; omega
              · intro v' w7 hown' hgrow _
                have hA7 := Lib.hid (hG2.out _ _ _ _ hA6.out hgrow hown')
                have hb7 : w7.heap[w4.heap.size]? = some (.cells #[.int .i64 (q1 : Nat), .string Y, .int .i64 q2, .int .i64 (line : Nat), .int .i64 (col : Nat)] 122 (0, 0)) := by
                  refine (hgrow.block w4.heap.size (by simp; omega) ?_).trans ?_
                  · intro he
                    have := (hA5.out.own.lt _ he.symm).2
                    omega
                  · exact (Below.heap_alloc _ _ _ (by simp)).trans (heap_alloc_new _ _)
                have x1 : w7.cell? ⟨w4.heap.size, 1, none⟩ = some (.string Y) := by
                  unfold World.cell?
                  simp [hb7]
                clear hgrow hown' hA6 hG2 hA5 a0 a1 fa0 fa1 p0 p1 fp0 fp1 klt hb7
                obtain ⟨it, own, a0, a1, fa0, fa1, p0, p1, fp0, fp1, bel, lt, klt⟩ := hA7.out
                clear own bel it
                go_wp2_with fail
                with_reducible refine (BH _).mono ?_
                rintro e w8 ⟨rfl, b8⟩
                have hA8 := Lib.hid (hA7.out.on b8)
                clear b8 hA7 a0 a1 fa0 fa1 p0 p1 fp0 fp1 klt x1
                obtain ⟨it, own, a0, a1, fa0, fa1, p0, p1, fp0, fp1, bel, lt, klt⟩ := hA8.out
                clear own bel
                go_wp2
                go_roundw
                case rel => exact ⟨pos + q, L, C, (pos : Int) + (q3 : Nat), ts ++ [X], by omega, by omega, by omega, by simp; omega, by go_num, by omega, by omega, hR2.out, hA8.out.place L C⟩
                case measure =>
                  have e2 := (hA8.out.place L C).it
                  have e1 := HIT.out
                  simp only [World.iterPos, e2, e1]
                  omega
            · have hV : firstV (s.extract pos s.size) = .tuple #[tokV ((tk (a :: r)).2.1 : Nat) ⟨#[]⟩ (tk (a :: r)).2.2.2 0 0, .int .i64 ((tk (a :: r)).1 : Nat)] := by
                unfold firstV
                rw [hX, if_neg htk]
              rw [hV] at FR
              have hR := hQ.out
              rw [hl, pl_cons, if_neg h0, if_pos (by omega), if_neg (by omega), if_pos htk, pre_bad ts htk] at hR
              have hR2 := Lib.hid hR
              have htk' : ¬ (((tk (a :: r)).1 : Nat) : Int) = 0 := by omega
              generalize (tk (a :: r)).1 = er at *
              generalize ((tk (a :: r)).2.1 : Nat) = q1 at *
              generalize (tk (a :: r)).2.2.2 = q2 at *
              generalize pt (a :: r) = q at *
              generalize psd (a :: r) = q4 at *
              clear hR hA hit hQ hD hB hl ha h0 hdr hD10 hX hV BH
              subst hn
              go_wp2_with fail
              with_reducible refine (IB _).mono ?_
              rintro e w2 ⟨rfl, b2⟩
              have hA3 := Lib.hid (hA2.out.on b2)
              clear hA2 b2 hnx IB
              go_wp2_with fail
              with_reducible refine (PS _).mono ?_
              rintro e w3 ⟨rfl, b3⟩
              have hA4 := Lib.hid (hA3.out.on b3)
              clear hA3 b3 PS
              have L4 : LibOk w3 := hL.below hA4.out.bel
              go_wp2_with fail
              with_reducible refine (FR _ L4).mono ?_
              rintro e w4 ⟨rfl, b4⟩
              have hA5 := Lib.hid (hA4.out.on b4)
              clear hA4 b4 FR L4
              have b5 := new_belowL w4 (.cells #[.int .i64 (q1 : Nat), .string ⟨#[]⟩, .int .i64 q2, .int .i64 0, .int .i64 0] 122)
              obtain ⟨it, own, a0, a1, fa0, fa1, p0, p1, fp0, fp1, bel, lt, klt⟩ := hA5.out.on b5
              clear b5
              have BE := Lib.hid bel
              clear own bel it
              unfold tokV
              go_wp2
              go_region
              all_goals
                go_wp2
                refine bodyPost_ret (v := .tuple #[.slice none 0 0, .agg #[.int .i64 (line : Nat), .int .i64 (col : Nat)], .int .i64 (er : Nat)]) (by simp [results, Tryz.results33, go_sem, p0, p1]) rfl ?_
                rw [← hR2.out]
                refine ⟨_, rfl, World.ownsRow_nil _ _ _ _, ?_⟩
                have BB := BE.out
                go_grown
          · have hR := hQ.out
            rw [hl, pl_cons, if_neg h0, if_pos (by omega), if_pos hpn, ← hdr, show (psd (a :: r) : Int) - (pt (a :: r) : Nat) = ((pos : Int) + (psd (a :: r) : Nat)) - ((pos + pt (a :: r) : Nat) : Int) by omega] at hR
            have hR2 := Lib.hid hR
            have hpn' : ¬ ((psd (a :: r) : Nat) : Int) = 0 := by omega
            have hpl : pos + psd (a :: r) ≤ s.size := by omega
            generalize pt (a :: r) = q at *
            generalize psd (a :: r) = q4 at *
            generalize bl a line = L at *
            generalize bc a col = C at *
            clear hR hA hit hQ hD hB hl ha h0 hdr hD10 hX hpn hps hlr
            subst hn
            go_wp2_with fail
            with_reducible refine (IB _).mono ?_
            rintro e w2 ⟨rfl, b2⟩
            have hA3 := Lib.hid (hA2.out.on b2)
            clear hA2 b2 hnx IB
            go_wp2_with fail
            with_reducible refine (PS _).mono ?_
            rintro e w3 ⟨rfl, b3⟩
            have hA4 := Lib.hid (hA3.out.on b3)
            clear hA3 b3 PS
            obtain ⟨it, own, a0, a1, fa0, fa1, p0, p1, fp0, fp1, bel, lt, klt⟩ := hA4.out
            clear own bel it
            go_wp2_with fail
            with_reducible refine (BH _).mono ?_
            rintro e w4 ⟨rfl, b4⟩
            have hA5 := Lib.hid (hA4.out.on b4)
            clear hA4 b4 BH a0 a1 fa0 fa1 p0 p1 fp0 fp1 klt
            obtain ⟨it, own, a0, a1, fa0, fa1, p0, p1, fp0, fp1, bel, lt, klt⟩ := hA5.out
            clear own bel
            go_wp2
            go_roundw
            case rel => exact ⟨pos + q, L, C, (pos : Int) + (q4 : Nat), ts, by omega, by omega, by omega, by omega, by go_num, by omega, by omega, hR2.out, hA5.out.place L C⟩
            case measure =>
              have e2 := (hA5.out.place L C).it
              have e1 := HIT.out
              simp only [World.iterPos, e2, e1]
              omega
        · have hR := hQ.out
          rw [hl, pl_cons, if_neg h0, if_neg (by omega), ← hdr, show n - (pos : Int) - (pt (a :: r) : Nat) = n - ((pos + pt (a :: r) : Nat) : Int) by omega] at hR
          have hR2 := Lib.hid hR
          generalize pt (a :: r) = q at *
          generalize bl a line = L at *
          generalize bc a col = C at *
          clear hR hA hit hQ hD hB hl ha h0 hdr hD10
          go_wp2_with fail
          with_reducible refine (IB _).mono ?_
          rintro e w2 ⟨rfl, b2⟩
          have hA3 := Lib.hid (hA2.out.on b2)
          clear hA2 b2
          obtain ⟨it, own, a0, a1, fa0, fa1, p0, p1, fp0, fp1, bel, lt, klt⟩ := hA3.out
          clear own bel it hnx IB
          go_wp2_with fail
          with_reducible refine (BH _).mono ?_
          rintro e w3 ⟨rfl, b3⟩
          have hA4 := Lib.hid (hA3.out.on b3)
          clear hA3 b3 BH a0 a1 fa0 fa1 p0 p1 fp0 fp1 klt
          obtain ⟨it, own, a0, a1, fa0, fa1, p0, p1, fp0, fp1, bel, lt, klt⟩ := hA4.out
          clear own bel
          go_wp2
          go_roundw
          case rel => exact ⟨pos + q, L, C, n, ts, by omega, by omega, by omega, by omega, rfl, hn0, hn1, hR2.out, hA4.out.place L C⟩
          case measure =>
            have e2 := (hA4.out.place L C).it
            have e1 := HIT.out
            simp only [World.iterPos, e2, e1]
            omega
    · have hnx : ∀ ty, (Instr.next (.pointer (some ⟨w1.heap.size, 0, none⟩)) true ty).run Tryz.prog wr = _ := fun ty => Lib.run_next_end_at wr w1.heap.size s pos ty hit hlt
      obtain ⟨it, own, a0, a1, fa0, fa1, p0, p1, fp0, fp1, bel, lt, klt⟩ := hA.out
      obtain ⟨i0, hi, hz0, hz1, hz2⟩ := info_parts infoT
      have hlen : ts.length ≤ 1048576 := by omega
      go_wp2_with (at_builtin; refine wpList_append_own _ rfl _ _ 96 rfl (w1.heap.size + 1) 122 i0 (.agg #[.int .i64 0, .string ⟨#[]⟩, .int .i64 0, .int .i64 0, .int .i64 0]) 5 48 Tryz.underlying96 hi hz0 hz1 hz2 rfl (by decide) _ _ _ rfl (own.alloc _) ⟨wr.heap.size, 0, none⟩ 1 1 [.int .i64 3, .string ⟨#[]⟩, .int .i64 0, .int .i64 (line : Nat), .int .i64 (col : Nat)] rfl rfl ?c1 ?c2 ?c3 ?c4 ?c5 ?_)
      case c1 => exact lit5 _ _ _ _ _ _ _
      case c2 => exact one5 _ _ _ _ _
      case c3 => unfold maxLen; omega
      case c4 => omega
      case c5 => simp; omega
      · intro v' w3 hown' hgrow _
        have hE : s.data.toList.drop pos = [] := List.drop_eq_nil_of_le (by rw [size_list]; omega)
        have hQ2 := hQ.out
        rw [hE, pl_nil] at hQ2
        have hQ3 := Lib.hid hQ2
        have hA3 := Lib.hid (hA.out.grow (x := ⟨3, [], 0, line, col⟩) hgrow hown')
        clear hQ2 hQ hA hE hown' hgrow own it a0 a1 fa0 fa1 p0 p1 fp0 fp1 bel klt hnx hit
        obtain ⟨it, own, a0, a1, fa0, fa1, p0, p1, fp0, fp1, bel, lt, klt⟩ := hA3.out
        have OW := Lib.hid own
        have BE := Lib.hid bel
        clear own bel it
        go_wp2
        refine bodyPost_ret (v := .tuple #[v', .agg #[.int .i64 0, .int .i64 0], .int .i64 0]) (by simp [results, Tryz.results33, go_sem, p0, p1]) rfl ?_
        rw [← hQ3.out]
        refine ⟨_, rfl, ?_, ?_⟩
        · refine World.ownsRow.mono (own_frame OW.out ?_) (by omega)
          intro g hg _
          exact (Below.heap_setCell _ ⟨w.heap.size, 1, none⟩ _ g (by show g ≠ w.heap.size; omega)).trans (Below.heap_setCell _ ⟨w.heap.size, 0, none⟩ _ g (by show g ≠ w.heap.size; omega))
        · refine Below.setCell (Below.setCell BE.out ?_ _) ?_ _ <;> simp
theorem lex_any (s : ByteArray) (w : World) (hL : LibOk w) : Calls Tryz.prog 33 #[.string s] w (IsRs w (lexP s.data.toList) 122) := by
  rcases Nat.lt_or_ge 1048576 s.size with h | h
  · exact lex_long s h w
  · exact lex_short s h w hL
end Go.Proofs.YtbadingdklenhaaGreatDoor
