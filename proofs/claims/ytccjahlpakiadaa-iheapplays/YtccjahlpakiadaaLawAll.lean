/-
  What the laws of layer 5 share: all, the first entries of a slice that came in, in a row of the call's own.
-/
import Derived.Test.YtccjahlpakiadaaHeapFrame2
namespace Go.Proofs.Ytccjahlpakiadaa.I
set_option maxRecDepth 100000
open Go.RowKit Go.Sort

/-- The first k of them. -/
def ls (z : Nat → En) (k : Nat) : List En := (List.range k).map z
theorem ls_length (z : Nat → En) (k : Nat) : (ls z k).length = k := by simp [ls]
theorem ls_succ (z : Nat → En) (k : Nat) : ls z (k + 1) = ls z k ++ [z k] := by simp [ls, List.range_succ]
theorem nth_ls {z : Nat → En} {k i : Nat} (h : i < k) : nth (ls z k) i = z i := by
  rw [nth_get (by rw [ls_length]; exact h)]
  simp [ls]
theorem own_next {w w' : World} {B n : Nat} {t : TypeId} {v : Value} {cs : List Value} (h : w.ownsRow B t 4 v n cs) (hb : Below w.heap.size w w') : w'.ownsRow B t 4 v n cs := by
  refine h.kept (row := none) ⟨hb.os, hb.tape, hb.output, hb.size, fun k hk _ => hb.block k hk⟩ ?_
  cases v.ownBlock with
  | none => exact .inl rfl
  | some q => exact .inr (by simp)
/-- What all answers. -/
def IsAll (z : Nat → En) (L : Nat) (w : World) (e : Ending) (w' : World) : Prop :=
  ∃ v, e = .returned v ∧ w'.ownsRow w.heap.size 39 4 v L (flatE (ls z L)) ∧ Below w.heap.size w w'

set_option maxHeartbeats 4000000 in
theorem all_any (most : Nat) (hmo : most ≤ 60) (a : Option Addr) (len cap : Nat) (z : Nat → En) (w : World) (h : IsEnts w a len cap z) :
    Calls Try.prog 8 #[.slice a len cap, .int .i64 (most : Int)] w (IsAll z (min len most) w) := by
  obtain ⟨hE, hlc, hcm⟩ := h
  obtain ⟨i0, hi, hz0, hz1, hz2⟩ := info_parts' infoE
  unfold maxLen at hcm
  obtain ⟨L, eL⟩ : ∃ L, min len most = L := ⟨_, rfl⟩
  obtain ⟨hL, hL1, hL2⟩ : (min (len : Int) (most : Int)).toNat = L ∧ L ≤ len ∧ L ≤ 60 := ⟨by omega, by omega, by omega⟩
  rw [eL]
  clear eL
  have hE := Lib.hid (hE.less hL1)
  unfold IsAll
  go_enter Try.func8, Try.ntmps8
  go_wp2
  go_loopw [5, 15] (fun d i wr => ∃ k : Nat, k ≤ L ∧ i = .int .i64 k ∧ wr.ownsRow w.heap.size 39 4 d k (flatE (ls z k)) ∧ Below w.heap.size w wr) (fun _ i _ => L - (intOf i).toNat)
  case atStart => exact ⟨0, by omega, rfl, World.ownsRow_nil _ _ _ _, Below.refl _ _⟩
  case round =>
    obtain ⟨k, hk, rfl, hown, hbe⟩ := hrel
    by_cases hlt : k < L
    · obtain ⟨b, off, rfl, hb, hc⟩ := (hE.out.below hbe).at_ (by omega)
      obtain ⟨c0, c1, c2, c3⟩ := hc k hlt
      obtain ⟨x, hx⟩ : ∃ x, z k = x := ⟨_, rfl⟩
      rw [hx] at c0 c1 c2 c3
      have HX := Lib.hid hx
      have c01 : (0 : Int) ≤ (k : Int) := by omega
      have c02 : (k : Int) < (L : Int) := by omega
      have HO := Lib.hid hown
      have HBE := Lib.hid hbe
      have OX := of_any x
      unfold entV at OX
      clear hc hx hown hbe
      go_wp2_with fail
      with_reducible refine (OX _).mono ?_
      rintro e w1 ⟨rfl, m1⟩
      have B1 : Below wr.heap.size wr (wr.alloc (.cells #[.int .i64 x.b, .int .i64 x.d, .int .i64 x.s, .int .i64 x.i] 30)) := (Below.refl _ _).alloc (Nat.le_refl _) _
      have B2 := B1.trans (m1.below.mono B1.size)
      have B3 := HBE.out.trans (B2.mono HBE.out.size)
      have O1 := Lib.hid (own_next HO.out B2)
      have HB3 := Lib.hid B3
      have hsz := B3.size
      clear B1 B2 B3 m1 HO HBE c0 c1 c2 c3 OX hb
      go_wp2_with (at_builtin; refine wpList_append_lies _ rfl _ _ 26 rfl w.heap.size 39 i0 (.agg #[.int .i64 0, .int .i64 0, .int .i64 0, .int .i64 0]) 4 32 Try.underlying26 hi hz0 hz1 hz2 rfl (by decide) _ _ _ rfl (O1.out.alloc _) ⟨w1.heap.size, 0, none⟩ 1 1 (encE x) rfl rfl ?c1 ?c2 ?c3 ?c4 ?c5 ?c6 (w1.heap.size + 1) ?c7 ?_)
      case c1 => exact World.news_of_block (cs := #[.int .i64 x.b, .int .i64 x.d, .int .i64 x.s, .int .i64 x.i]) (heap_alloc_new w1 _)
      case c2 => intro u hu; simp [encE] at hu; rcases hu with rfl | rfl | rfl | rfl <;> rfl
      case c3 => omega
      case c4 => unfold maxLen; omega
      case c5 => omega
      case c6 => simp; omega
      case c7 => simp
      · intro g1 cap1 w2 hown1 hgrow _ hlt1
        have B1 : Below w.heap.size w w2 := (HB3.out.alloc hsz _).grown hgrow (by simp; omega) (fun q hq => (O1.out.lt q hq).1)
        have O2 : Hid (w2.ownsRow w.heap.size 39 4 (.slice (some ⟨g1, 0, none⟩) (k + 1) cap1) (k + 1) (flatE (ls z (k + 1)))) := by
          show World.ownsRow _ _ _ _ _ _ _
          rw [ls_succ, HX.out, flatE_append, flatE_cons, flatE_nil, List.append_nil]
          exact hown1
        have HB1 := Lib.hid B1
        clear B1 hown1 hgrow hlt1 O1 HB3 hsz
        go_wp2
        go_roundw
        case rel => exact ⟨k + 1, by omega, by go_num, O2.out, HB1.out⟩
        case measure => simp [intOf]; omega
    · obtain rfl : k = L := by omega
      have HO := Lib.hid hown
      have HBE := Lib.hid hbe
      clear hown hbe
      go_wp2
      go_ret
      exact ⟨_, rfl, HO.out, HBE.out⟩
end Go.Proofs.Ytccjahlpakiadaa.I
