/-
  What package lex's Join and the document's do with a list of tokens.
-/
import Derived.Test.YtmiibffbakbklaaDoorLexJoinMath
import Derived.Test.YtmiibffbakbklaaDoorLexLex
namespace Go.Proofs.YtmiibffbakbklaaDoor
set_option maxRecDepth 100000
open Go.RowKit

theorem add0 (g j : Nat) : (⟨g, 0, none⟩ : Addr).add j = ⟨g, j, none⟩ := by unfold Addr.add; split <;> simp_all
def ToksAt (w : World) (g : Nat) (l : List Tk) : Prop := g < w.heap.size ∧ ∀ j v, (flatT l)[j]? = some v → w.cell? ⟨g, j, none⟩ = some v
theorem ToksAt.next {w w' : World} {g : Nat} {l : List Tk} (h : ToksAt w g l) (hb : Below w.heap.size w w') : ToksAt w' g l :=
  ⟨Nat.lt_of_lt_of_le h.1 hb.size, fun j v hj => by rw [hb.cell (by exact h.1)]; exact h.2 j v hj⟩
theorem flatT_at : ∀ (l : List Tk) (i : Nat) (x : Tk), l[i]? = some x → ∀ j, j < 5 → (flatT l)[i * 5 + j]? = (cells5 x)[j]?
  | [], i, x, h, _, _ => by simp at h
  | y :: l, 0, x, h, j, hj => by
    have : y = x := by simpa using h
    subst this
    rw [Nat.zero_mul, Nat.zero_add]
    exact List.getElem?_append_left (by simp [cells5]; omega)
  | y :: l, i + 1, x, h, j, hj => by
    have h2 : l[i]? = some x := by simpa using h
    have e := flatT_at l i x h2 j hj
    rw [← e]
    show (cells5 y ++ flatT l)[(i + 1) * 5 + j]? = _
    rw [List.getElem?_append_right (by simp [cells5]; omega)]
    congr 1
    simp [cells5]
    omega
theorem ToksAt.get {w : World} {g i : Nat} {l : List Tk} {x : Tk} (h : ToksAt w g l) (hi : l[i]? = some x) :
    w.cell? ⟨g, i * 5, none⟩ = some (.int .i64 (x.kind : Nat)) ∧ w.cell? ⟨g, i * 5 + 1, none⟩ = some (.string ⟨x.text.toArray⟩) ∧ w.cell? ⟨g, i * 5 + 2, none⟩ = some (.int .i64 x.n) ∧ w.cell? ⟨g, i * 5 + 3, none⟩ = some (.int .i64 (x.line : Nat)) ∧ w.cell? ⟨g, i * 5 + 4, none⟩ = some (.int .i64 (x.col : Nat)) :=
  ⟨h.2 _ _ (flatT_at l i x hi 0 (by omega)), h.2 _ _ (flatT_at l i x hi 1 (by omega)), h.2 _ _ (flatT_at l i x hi 2 (by omega)), h.2 _ _ (flatT_at l i x hi 3 (by omega)), h.2 _ _ (flatT_at l i x hi 4 (by omega))⟩
/-- A slice that reads as these tokens. -/
def Toks (w : World) (v : Value) (l : List Tk) : Prop := ∃ A cap, v = .slice A l.length cap ∧ l.length ≤ cap ∧ cap ≤ maxLen ∧ (0 < l.length → ∃ g, A = some ⟨g, 0, none⟩ ∧ ToksAt w g l)
theorem Toks.next {w w' : World} {v : Value} {l : List Tk} (h : Toks w v l) (hb : Below w.heap.size w w') : Toks w' v l := by
  obtain ⟨A, cap, h1, h2, h3, h4⟩ := h
  refine ⟨A, cap, h1, h2, h3, fun h0 => ?_⟩
  obtain ⟨g, h5, h6⟩ := h4 h0
  exact ⟨g, h5, h6.next hb⟩
theorem toks_of_own {w : World} {B : Nat} {t : TypeId} {v : Value} {l : List Tk} (h : w.ownsRow B t 5 v l.length (flatT l)) : Toks w v l := by
  rcases h.2 with ⟨hv, hn⟩ | ⟨g, cap, cur, hv, hb, hg, hnc, hmc, rest⟩
  · exact ⟨none, 0, by rw [hv, hn], by omega, by unfold maxLen; omega, fun h1 => absurd h1 (by omega)⟩
  · refine ⟨some ⟨g, 0, none⟩, cap, hv, by omega, by omega, fun h0 => ⟨g, rfl, (Array.getElem?_eq_some_iff.1 hg).1, fun j u hj => ?_⟩⟩
    subst hv
    have := h.cells (g := g) rfl j u hj
    rwa [add0] at this

/-! ### strings.Builder -/
theorem write_any (B b : Nat) (bs : List Value) (s : ByteArray) (w : World) (h : Lib.IsBuilderF 60 5 B b bs w) (hlen : bs.length + s.size ≤ 140737488355328) (hBw : B ≤ w.heap.size) :
    Calls Tryd.prog 24 #[.pointer (some ⟨b, 0, none⟩), .string s] w fun e w' => e = .returned (.tuple #[.int .i64 s.size, .nilIface]) ∧ (Lib.BuilderAtF 60 5 B b (.pointer (some ⟨b, 0, none⟩)) (bs ++ Lib.strCells s) w' ∧ Below B w w' ∧ Lib.OthersKept 5 (some b) w w') :=
  Any.Builder_WriteString_k { Tryd.lays155 with } Tryd.Builder_Extra_155 B b bs s w h hlen hBw
theorem builder_lt {T e : TypeId} {B b : Nat} {bs : List Value} {w : World} (h : Lib.IsBuilderF T e B b bs w) : b < w.heap.size := by
  rcases h with ⟨_, v, hb, _⟩ | ⟨_, v, hb, _⟩
  · exact (Array.getElem?_eq_some_iff.1 hb).1
  · exact (Array.getElem?_eq_some_iff.1 hb).1
theorem jnf_drop {l : List Tk} {k : Nat} {x : Tk} (h : l[k]? = some x) (b : List UInt8) : jnf b (l.drop k) = if x.kind = 3 then jnf b (l.drop (k + 1)) else b ++ x.text ++ jnf [32] (l.drop (k + 1)) := by
  obtain ⟨hk, hx⟩ := List.getElem?_eq_some_iff.1 h
  rw [List.drop_eq_getElem_cons hk, hx]
  rfl

set_option maxHeartbeats 4000000 in
theorem join_any (l : List Tk) (v : Value) (hM : (jnf [] l).length ≤ 140737488355328) (hn : l.length ≤ 4294967296) (w : World) (hT : Toks w v l) :
    Calls Tryd.prog 10 #[v] w fun e w' => e = .returned (.string ⟨(jnf [] l).toArray⟩) ∧ Below w.heap.size w w' := by
  obtain ⟨A, cap, rfl, hc1, hc2, hg⟩ := hT
  unfold maxLen at hc2
  have HG := Lib.hid hg
  clear hg
  go_enter Tryd.func10, Tryd.ntmps10
  go_wp2
  go_loopw [4, 9] (fun bv iv wr => ∃ (k : Nat) (bl acc : List UInt8), k ≤ l.length ∧ bv = .string ⟨bl.toArray⟩ ∧ bl.length ≤ 1 ∧ iv = .int .i64 (k : Nat) ∧ Hid (acc ++ jnf bl (l.drop k) = jnf [] l) ∧
    Hid (Lib.IsBuilderF 60 5 w.heap.size w.heap.size (Lib.byteCells acc) wr) ∧ Hid (Below w.heap.size w wr)) (fun _ iv _ => l.length - (intOf iv).toNat)
  case atStart => exact ⟨0, [], [], by omega, rfl, by simp, rfl, by show _ = _; simp, Lib.IsBuilderF.of (Lib.fresh_isBuilder 60 5 w), new_below _ _⟩
  case round =>
    obtain ⟨k, bl, acc, hk, rfl, hbl, rfl, hQ, hI, hB⟩ := hrel
    have hBs := hB.out.size
    have hBl := builder_lt hI.out
    by_cases hlt : k < l.length
    · obtain ⟨x, hx⟩ : ∃ x, l[k]? = some x := ⟨_, List.getElem?_eq_getElem hlt⟩
      obtain ⟨g, rfl, hG⟩ := HG.out (by omega)
      have hgl := hG.1
      obtain ⟨c0, c1, c2, c3, c4⟩ := (ToksAt.next hG hB.out).get hx
      have hq := hQ.out
      rw [jnf_drop hx] at hq
      have hblk : wr.heap.size = wr.heap.size := rfl
      by_cases h3 : x.kind = 3
      · rw [if_pos h3] at hq
        have HQ := Lib.hid hq
        have k3 : ((x.kind : Nat) : Int) = 3 := by omega
        clear hQ hq hx hG hblk
        have hI2 := Lib.hid (hI.out.alloc (.cells #[.int .i64 3, .string ⟨x.text.toArray⟩, .int .i64 x.n, .int .i64 (x.line : Nat), .int .i64 (x.col : Nat)] 35))
        have hB2 := Lib.hid (Below.alloc hB.out hBs (.cells #[.int .i64 3, .string ⟨x.text.toArray⟩, .int .i64 x.n, .int .i64 (x.line : Nat), .int .i64 (x.col : Nat)] 35))
        clear hI hB
        go_wp2
        go_roundw
        case rel => exact ⟨k + 1, bl, acc, by omega, rfl, hbl, by go_num, HQ.out, hI2, hB2⟩
        case measure => simp [intOf]; omega
      · rw [if_neg h3] at hq
        have HQ : Hid ((acc ++ bl ++ x.text) ++ jnf [32] (l.drop (k + 1)) = jnf [] l) := by
          show _ = _
          rw [← hq]
          simp
        have hl2 : acc.length + bl.length + x.text.length ≤ 140737488355328 := by
          have := congrArg List.length HQ.out
          simp only [List.length_append] at this
          omega
        have k3 : ¬ ((x.kind : Nat) : Int) = 3 := by omega
        clear hQ hq hx hG hblk
        have hI2 := Lib.hid (hI.out.alloc (.cells #[.int .i64 (x.kind : Nat), .string ⟨x.text.toArray⟩, .int .i64 x.n, .int .i64 (x.line : Nat), .int .i64 (x.col : Nat)] 35))
        have hB2 := Lib.hid (Below.alloc hB.out hBs (.cells #[.int .i64 (x.kind : Nat), .string ⟨x.text.toArray⟩, .int .i64 x.n, .int .i64 (x.line : Nat), .int .i64 (x.col : Nat)] 35))
        clear hI hB
        have W1 := write_any w.heap.size w.heap.size (Lib.byteCells acc) ⟨bl.toArray⟩
        go_wp2_with fail
        with_reducible refine (W1 _ hI2.out (by rw [Lib.byteCells_length, ba_size]; omega) (by simp; omega)).mono ?_
        rintro e w2 ⟨rfl, i2, b2, o2⟩
        have hbx : w2.heap[wr.heap.size]? = some (.cells #[.int .i64 (x.kind : Nat), .string ⟨x.text.toArray⟩, .int .i64 x.n, .int .i64 (x.line : Nat), .int .i64 (x.col : Nat)] 35 (0, 0)) :=
          o2 _ _ (heap_alloc_new _ _) (by intro e; injection e with e; omega) (fun c fz e => by injection e with _ e2 _; exact absurd e2 (by decide))
        have x1 : w2.cell? ⟨wr.heap.size, 1, none⟩ = some (.string ⟨x.text.toArray⟩) := by
          unfold World.cell?
          simp [hbx]
        have W2 := write_any w.heap.size w.heap.size (Lib.byteCells acc ++ Lib.strCells ⟨bl.toArray⟩) ⟨x.text.toArray⟩ w2 (.inr i2) (by rw [List.length_append, Lib.byteCells_length, Lib.strCells_eq, Lib.byteCells_length, ba_list, ba_size]; omega) (by have := (hB2.out.trans b2).size; omega)
        have hB3 := Lib.hid (hB2.out.trans b2)
        clear W1 hI2 hB2 b2 o2 i2 hbx c0 c1 c2 c3 c4
        go_wp2_with fail
        with_reducible refine W2.mono ?_
        rintro e w3 ⟨rfl, i3, b3, o3⟩
        have hI4 : Hid (Lib.IsBuilderF 60 5 w.heap.size w.heap.size (Lib.byteCells (acc ++ bl ++ x.text)) w3) := by
          refine .inr ?_
          rw [Lib.byteCells_append, Lib.byteCells_append]
          rw [Lib.strCells_eq, Lib.strCells_eq, ba_list, ba_list] at i3
          exact i3
        have hB4 := Lib.hid (hB3.out.trans b3)
        clear W2 i3 b3 o3 hB3 x1
        go_wp2
        go_roundw
        case rel => exact ⟨k + 1, [32], acc ++ bl ++ x.text, by omega, rfl, by simp, by go_num, HQ, hI4, hB4⟩
        case measure => simp [intOf]; omega
    · obtain rfl : k = l.length := by omega
      have hq := hQ.out
      rw [List.drop_eq_nil_of_le (Nat.le_refl _)] at hq
      have hS := Tryd.Builder_String_any_k w.heap.size w.heap.size acc wr hI.out hBs
      go_wp2_with fail
      with_reducible refine hS.mono ?_
      rintro e w2 ⟨rfl, _, b2, _⟩
      go_wp2
      go_ret
      rw [← hq]
      refine ⟨by simp [jnf], hB.out.trans b2⟩
end Go.Proofs.YtmiibffbakbklaaDoor
