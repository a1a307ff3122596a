/-
  What a page's line does: its beginning, its numbers (layer 11).
-/
import Derived.Test.YtbadingdklenhaaGreatDoorShowPage
import Derived.Test.YtbadingdklenhaaGreatDoorInstKit
import Derived.Lib.AppendIntMem
import Derived.Deep.RegionHeld3
import Derived.BigQuiet
import Derived.StillTailTactics
namespace Go.Proofs.YtbadingdklenhaaGreatDoor
set_option maxRecDepth 100000
open Go.RowKit

/-- The library's table of powers of ten reads as its initialiser lays it. -/
def TabOk (w : World) : Prop := Lib.TabIs Tryz.prog w "internal/strconv.uint64pow10" .u64 Lib.pow10Tab
theorem gTab : Tryz.prog.globalNamed "internal/strconv.uint64pow10" = some 1 := by kernel_rfl
theorem TabOk.of {w w' : World} (h : TabOk w) (hb : w'.heap[1]? = w.heap[1]?) : TabOk w' := by
  unfold TabOk Lib.TabIs World.var? at *
  rw [gTab] at h ⊢
  simp only [Option.bind_some] at h ⊢
  rw [hb]
  exact h
theorem TabOk.lt {w : World} (h : TabOk w) : 1 < w.heap.size := by
  unfold TabOk Lib.TabIs World.var? at h
  rw [gTab] at h
  simp only [Option.bind_some] at h
  rcases Nat.lt_or_ge 1 w.heap.size with h' | h'
  · exact h'
  · rw [Array.getElem?_eq_none h'] at h; cases h
theorem TabOk.next {w w' : World} (h : TabOk w) (hb : Below w.heap.size w w') : TabOk w' := h.of (hb.block _ h.lt)
theorem format_any (n : Int) (hn : I64 n) (w : World) (hT : TabOk w) :
    Calls Tryz.prog 72 #[.int .i64 n, .int .i64 10] w fun e w' => e = .returned (.string ⟨(Lib.itoa n).toArray⟩) ∧ Below w.heap.size w w' := by
  refine (Tryz.strconv_FormatInt_10 n hn.1 hn.2 w hT).mono ?_
  rintro e w' ⟨rfl, k, os, rfl⟩
  exact ⟨rfl, Lib.below_grow _ w (Nat.le_refl _) k os⟩
/-! ### what a page's writing leaves -/
theorem Page.next {B b : Nat} {bs : List Value} {w w' : World} (h : Page B b bs w) (hb : Below w.heap.size w w') : Page B b bs w' := by
  have key : ∀ p, Lib.BuilderAtF 79 5 B b p bs w → Lib.BuilderAtF 79 5 B b p bs w' := by
    rintro p ⟨hB, v, hk, ⟨h1, h2⟩, hne⟩
    refine ⟨hB, v, (hb.block _ (heap_lt hk)).trans hk, ⟨h1, ?_⟩, hne⟩
    rcases h2 with h2 | ⟨g, cap, cur, fz, hv, hg, hgg, rest⟩
    · exact .inl h2
    · exact .inr ⟨g, cap, cur, fz, hv, hg, (hb.block _ (heap_lt hgg)).trans hgg, rest⟩
  rcases h with h | h
  · exact .inl (key _ h)
  · exact .inr (key _ h)
theorem Page.lt {B b : Nat} {bs : List Value} {w : World} (h : Page B b bs w) : b < w.heap.size := by
  rcases h with h | h
  · exact h.lt
  · exact h.lt
/-- Since w there is l on the page b, and nothing else has turned. -/
structure Pg (b : Nat) (l : List UInt8) (w w' : World) : Prop where
  mk ::
  page : Page b b (Lib.byteCells l) w'
  be : Below b w w'
  oth : Lib.OthersKept 5 (some b) w w'
/-- A block that writing on the page b doesn't turn. -/
def Kp (b : Nat) (w : World) (x : Nat) : Prop := x < b ∨ (x ≠ b ∧ ∃ o, w.heap[x]? = some o ∧ ∀ c fz, o ≠ .cells c 5 fz)
section
variable {b : Nat} {l l' : List UInt8} {w w' w'' : World}
theorem Pg.refl (h : Page b b (Lib.byteCells l) w) : Pg b l w w := ⟨h, Below.refl _ _, Lib.OthersKept.refl _ _ _⟩
theorem Pg.trans (h : Pg b l w w') (k : Pg b l' w' w'') : Pg b l' w w'' := ⟨k.page, h.be.trans k.be, h.oth.trans k.oth⟩
theorem Pg.next (h : Pg b l w w') (hb : Below w'.heap.size w' w'') : Pg b l w w'' :=
  ⟨h.page.next hb, h.be.trans (hb.mono (Nat.le_of_lt h.page.lt)), fun k o h1 h2 h3 => by
    have h4 := h.oth k o h1 h2 h3
    exact (hb.block _ (heap_lt h4)).trans h4⟩
theorem Pg.size (h : Pg b l w w') : w.heap.size ≤ w'.heap.size := h.be.size
theorem Pg.lt (h : Pg b l w w') : b < w'.heap.size := h.page.lt
theorem Pg.tab (h : Pg b l w w') (hT : TabOk w) (hg : 1 < b) : TabOk w' := hT.of (h.be.block _ hg)
theorem Pg.held (h : Pg b l w w') : Held (Kp b w) w w' := ⟨h.size, fun x hx hl => by
  rcases hx with hx | ⟨hx, o, ho, hk⟩
  · exact h.be.block _ hx
  · rw [ho]
    exact h.oth x o ho (fun e => hx (by injection e)) hk⟩
theorem Pg.kp (h : Pg b l w w') {x : Nat} (hx : Kp b w x) : Kp b w' x := by
  rcases hx with hx | ⟨hx, o, ho, hk⟩
  · exact .inl hx
  · exact .inr ⟨hx, o, h.oth x o ho (fun e => hx (by injection e)) hk, hk⟩
end
theorem writeS_pg (b : Nat) (l : List UInt8) (s : ByteArray) (w0 w : World) (h : Pg b l w0 w) (hlen : l.length + s.size ≤ 140737488355328) :
    Calls Tryz.prog 85 #[.pointer (some ⟨b, 0, none⟩), .string s] w fun e w' => e = .returned (.tuple #[.int .i64 s.size, .nilIface]) ∧ Pg b (l ++ s.data.toList) w0 w' := by
  refine (writeS_any b b _ s w h.page (by rw [Lib.byteCells_length]; exact hlen) (Nat.le_of_lt h.lt)).mono ?_
  rintro e w' ⟨rfl, h1, h2, h3⟩
  rw [Lib.strCells_eq] at h1
  exact ⟨rfl, ⟨.inr (by rw [Lib.byteCells_append]; exact h1), h.be.trans h2, h.oth.trans h3⟩⟩
theorem writeB_pg (b : Nat) (l : List UInt8) (c : UInt8) (ci : Int) (hc : ci = (c.toNat : Nat)) (w0 w : World) (h : Pg b l w0 w) (hlen : l.length + 1 ≤ 140737488355328) :
    Calls Tryz.prog 86 #[.pointer (some ⟨b, 0, none⟩), .int .u8 ci] w fun e w' => e = .returned .nilIface ∧ Pg b (l ++ [c]) w0 w' := by
  subst hc
  refine (writeB_any b b _ _ w h.page (by rw [Lib.byteCells_length]; exact hlen) (Nat.le_of_lt h.lt)).mono ?_
  rintro e w' ⟨rfl, h1, h2, h3⟩
  exact ⟨rfl, ⟨.inr (by rw [Lib.byteCells_append]; exact h1), h.be.trans h2, h.oth.trans h3⟩⟩
theorem numsT_drop {l : List Int} {k : Nat} {x : Int} (h : l[k]? = some x) : numsT (l.drop k) = numT x ++ numsT (l.drop (k + 1)) := by
  obtain ⟨hk, hx⟩ := List.getElem?_eq_some_iff.1 h
  rw [List.drop_eq_getElem_cons hk, hx]
  rfl

theorem ba_list' (l : List UInt8) : (⟨l.toArray⟩ : ByteArray).data.toList = l := by simp
theorem ba_size' (l : List UInt8) : (⟨l.toArray⟩ : ByteArray).size = l.length := by show l.toArray.size = _; simp
theorem str_len (s : ByteArray) : s.data.toList.length = s.size := by rw [Array.length_toList]; rfl

set_option maxHeartbeats 2000000 in
theorem line_any (b : Nat) (l : List UInt8) (h : ByteArray) (u : Value) (ns : List Int) (w0 w : World) (hP : Pg b l w0 w) (hT : TabOk w0) (hg : 1 < b) (hN : Ints (Kp b w0) w0 u ns) (h64 : ∀ n ∈ ns, I64 n) (hlen : l.length + h.size + 22 * ns.length + 1 ≤ 140737488355328) :
    Calls Tryz.prog 71 #[.pointer (some ⟨b, 0, none⟩), .string h, u] w fun e w' => e = .returned (.tuple #[]) ∧ Pg b (l ++ (h.data.toList ++ (numsT ns ++ [10]))) w0 w' := by
  obtain ⟨A, C, rfl, hC, hM⟩ := hN.form
  unfold maxLen at hM
  have hm := numsT_len ns h64
  have hsz := str_len h
  have W1 := writeS_pg b l h w0 w hP (by omega)
  have HN := Lib.hid hN
  have H64 := Lib.hid h64
  have WB := fun acc c ci hc W hW hl => writeB_pg b acc c ci hc w0 W hW hl
  have WS := fun acc s W hW hl => writeS_pg b acc s w0 W hW hl
  clear hN h64 hP
  go_enter Tryz.func71, Tryz.ntmps71
  go_wp2_with fail
  with_reducible refine W1.mono ?_
  rintro e w1 ⟨rfl, p1⟩
  have HP := Lib.hid p1
  clear p1 W1
  go_wp2
  go_loopw [15] (fun i wr => ∃ (k : Nat) (acc : List UInt8), k ≤ ns.length ∧ i = .int .i64 (k : Nat) ∧ Hid (acc ++ numsT (ns.drop k) = l ++ (h.data.toList ++ numsT ns)) ∧ Hid (Pg b acc w0 wr)) (fun i _ => ns.length - (intOf i).toNat)
  case atStart => exact ⟨0, _, by omega, rfl, by show _ = _; simp, HP⟩
  case round =>
    obtain ⟨k, acc, hk, rfl, hQ, hP⟩ := hrel
    by_cases hlt : k < ns.length
    · obtain ⟨g, off, x, rfl, _, hgl, hx, c0⟩ := (HN.out.held hP.out.held).get hlt
      have hq := hQ.out
      rw [numsT_drop hx] at hq
      have hx64 := H64.out x (List.mem_of_getElem? hx)
      have hxl := numT_len hx64
      have hll := congrArg List.length hq
      simp only [List.length_append] at hll
      have hxx : (numT x).length = (Lib.itoa x).length + 1 := rfl
      have c01 : (0 : Int) ≤ (k : Int) := by omega
      have c02 : (k : Int) < (ns.length : Int) := by omega
      have W2 := WB acc 32 32 rfl wr hP.out (by omega)
      have W3 := WS (acc ++ [32]) ⟨(Lib.itoa x).toArray⟩
      rw [ba_list', ba_size'] at W3
      have HQ : Hid ((acc ++ [32] ++ Lib.itoa x) ++ numsT (ns.drop (k + 1)) = l ++ (h.data.toList ++ numsT ns)) := by
        show _ = _
        rw [← hq]
        simp [numT]
      have FT := fun W hW => format_any x hx64 W hW
      clear hQ hq hP hx hx64
      go_wp2_with fail
      with_reducible refine W2.mono ?_
      rintro e w2 ⟨rfl, p2⟩
      go_wp2_with fail
      have H0 := Lib.hid (p2.next (Below.refl _ _).drew)
      have hl5 : (acc ++ [32]).length + (Lib.itoa x).length ≤ 140737488355328 := by simp; omega
      clear W2 p2 hll
      go_region_held3 (fun _ => True) (exact trivial)
        (first
          | (go_at_call 72; (with_reducible refine (FT _ (H0.out.tab hT hg)).mono ?_); rintro e w3 ⟨rfl, b3⟩; have H0 := Lib.hid (H0.out.next b3))
          | (go_at_call 85; (with_reducible refine (W3 _ H0.out hl5).mono ?_); rintro e w4 ⟨rfl, p4⟩; have H0 := Lib.hid p4))
      go_wp2
      go_roundw
      case rel => exact ⟨k + 1, _, by omega, by go_num, HQ, H0⟩
      case measure => simp [intOf]; omega
    · obtain rfl : k = ns.length := by omega
      have hq := hQ.out
      rw [List.drop_eq_nil_of_le (Nat.le_refl _)] at hq
      simp only [numsT, List.append_nil] at hq
      have hll := congrArg List.length hq
      simp only [List.length_append] at hll
      have W2 := WB acc 10 10 rfl wr hP.out (by omega)
      rw [hq, List.append_assoc, List.append_assoc] at W2
      clear hQ hq hP hll WB WS
      go_wp2_with fail
      with_reducible refine W2.mono ?_
      rintro e w2 ⟨rfl, p2⟩
      have H0 := Lib.hid p2
      clear p2 W2
      go_wp2
      go_end0
      exact ⟨rfl, H0.out⟩
end Go.Proofs.YtbadingdklenhaaGreatDoor
