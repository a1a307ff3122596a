/-
  What the document's Digits does (package secateurref02).
-/
import Derived.Test.YtbadingdklenhaaGreatDoorRows
import Derived.Test.YtbadingdklenhaaGreatDoorInstMath
import Derived.Test.YtbadingdklenhaaGreatDoorSignMath
import Derived.Lib.ItoaLen
import Derived.WalkSpells
import Derived.WalkLawsBesides
import Derived.Deep.RegionHeld3
import Derived.Deep.RegionWith
import Derived.BigQuiet
import Derived.Test.YtbadingdklenhaaGreatDoorShowCover
import Derived.Test.YtbadingdklenhaaGreatDoorLexWalks
import Derived.Test.YtbadingdklenhaaGreatDoorInstRefM
import Derived.Test.YtbadingdklenhaaGreatDoorInstCopyKit
namespace Go.Proofs.YtbadingdklenhaaGreatDoor
set_option maxRecDepth 100000
open Go.RowKit

theorem kc (w : World) (v : Nat) :
    (convert 75 9 (.slice (some ⟨w.heap.size, 0, none⟩) 1 1)).run Tryz.prog (w.alloc (.cells #[.int .u8 (48 + (v : Int) % 10)] 5)) = .ok (.string ⟨#[UInt8.ofNat (48 + v % 10)]⟩) (w.alloc (.cells #[.int .u8 (48 + (v : Int) % 10)] 5)) := by
  refine run_convert_bytes_back (P := Tryz.prog) _ 75 9 5 ⟨w.heap.size, 0, none⟩ 1 [UInt8.ofNat (48 + v % 10)] Tryz.underlying75 Tryz.underlying5 Tryz.underlying9 (fun j hj => ?_)
  have hj0 : j = 0 := by simpa using hj
  subst hj0
  have e1 : ((UInt8.ofNat (48 + v % 10)).toNat : Int) = 48 + (v : Int) % 10 := by
    rw [UInt8.toNat_ofNat']; omega
  simp only [List.getElem_cons_zero, e1]
  rw [Addr.add_lit, World.cell?_alloc_at _ _ _ _ rfl]
  rfl

theorem kd (w : World) (v : Nat) (h : v < 10) :
    (convert 75 9 (.slice (some ⟨w.heap.size, 0, none⟩) 1 1)).run Tryz.prog (w.alloc (.cells #[.int .u8 (48 + (v : Int))] 5)) = .ok (.string ⟨#[UInt8.ofNat (48 + v)]⟩) (w.alloc (.cells #[.int .u8 (48 + (v : Int))] 5)) := by
  have e := kc w v
  rw [Nat.mod_eq_of_lt h, Int.emod_eq_of_lt (by omega) (by omega)] at e
  exact e

theorem app_list (b : UInt8) (A : ByteArray) : ((⟨#[b]⟩ : ByteArray) ++ A).data.toList = b :: A.data.toList := by
  rw [ByteArray.data_append]; simp

theorem digits_pos (n : Int) (hn : I64 n) (h0 : 0 ≤ n) (w : World) :
    Calls Tryz.prog 53 #[.int .i64 n] w fun e w' => e = .returned (.string ⟨(Lib.itoa n).toArray⟩) ∧ Below w.heap.size w w' := by
  obtain ⟨n0, n1⟩ := hn
  have u1 : IntKind.u64.wrap n = n := by rw [IntKind.wrap_u64]; omega
  go_enter Tryz.func53, Tryz.ntmps53
  obtain ⟨N, rfl⟩ := Int.eq_ofNat_of_zero_le h0
  have nn : ¬ ((N : Int) < 0) := by omega
  have hlen : (Lib.decDigits N).length ≤ 21 := by
    have := Lib.itoa_length_le (N : Int) n0 n1
    unfold Lib.itoa at this
    rw [if_neg nn] at this
    simpa using this
  have HL := Lib.hid hlen
  clear hlen
  go_wp2
  go_loopw [3, 4] (fun u s wr => ∃ (v : Nat) (A : ByteArray), v ≤ 9223372036854775807 ∧ A.size ≤ 21 ∧ u = .int .u64 v ∧ s = .string A ∧ Hid (Lib.decDigits v ++ A.data.toList = Lib.decDigits N) ∧ Below w.heap.size w wr) (fun u _ _ => (intOf u).toNat)
  case atStart => exact ⟨N, ⟨#[]⟩, by omega, by decide, rfl, rfl, by show _ = _; simp, Below.refl _ _⟩
  case round =>
    obtain ⟨v, A, hv, hA, rfl, rfl, hE, hB⟩ := hrel
    have HB := Lib.hid hB
    clear hB
    by_cases hlt : v < 10
    · have h9 : ¬ ((9 : Int) < (v : Int)) := by omega
      have kd0 := kd wr v hlt
      go_wp2
      have e8 : (48 + UInt8.ofNat v) = UInt8.ofNat (48 + v) := by
        rw [UInt8.ofNat_add]; rfl
      have hE' : ((⟨#[48 + UInt8.ofNat v]⟩ : ByteArray) ++ A) = ⟨(Lib.itoa (N : Int)).toArray⟩ := by
        have hE1 : Lib.decDigits v ++ A.data.toList = Lib.decDigits N := hE
        rw [dec_lt hlt] at hE1
        have e2 := app_list (48 + UInt8.ofNat v) A
        rw [e8] at e2 ⊢
        apply ByteArray.ext
        apply Array.toList_inj.1
        rw [e2]
        unfold Lib.itoa
        rw [if_neg (by omega)]
        simpa using hE1
      have HB' : Below w.heap.size w wr := HB
      have sz := HB'.size
      go_ret
      exact ⟨by rw [hE']; rfl, HB'.alloc sz _⟩
    · have h9 : (9 : Int) < (v : Int) := by omega
      have kc0 := kc wr v
      go_wp2
      have e8 : (48 + UInt8.ofNat (v % 10)) = UInt8.ofNat (48 + v % 10) := by
        rw [UInt8.ofNat_add]; rfl
      have hE' : Lib.decDigits (v / 10) ++ ((⟨#[48 + UInt8.ofNat (v % 10)]⟩ : ByteArray) ++ A).data.toList = Lib.decDigits N := by
        rw [app_list, e8]
        have hE1 : Lib.decDigits v ++ A.data.toList = Lib.decDigits N := hE
        rw [dec_step hlt] at hE1
        simpa using hE1
      have HB' : Below w.heap.size w wr := HB
      have sz := HB'.size
      refine ⟨⟨v / 10, _, by omega, ?_, by simp, rfl, hE', HB'.alloc sz _⟩, ?_⟩
      · have hl := congrArg List.length hE'
        have HL' : (Lib.decDigits N).length ≤ 21 := HL
        rw [List.length_append] at hl
        have hz : ∀ B : ByteArray, B.size = B.data.toList.length := fun B => by rw [Array.length_toList]; rfl
        rw [hz]
        omega
      · simp only [intOf]
        omega
theorem itoa_neg (N : Nat) (h : -(N : Int) < 0) : (⟨#[45]⟩ : ByteArray) ++ ⟨(Lib.itoa (N : Int)).toArray⟩ = ⟨(Lib.itoa (-(N : Int))).toArray⟩ := by
  apply ByteArray.ext
  apply Array.toList_inj.1
  rw [app_list]
  unfold Lib.itoa
  rw [if_pos h, if_neg (by omega)]
  simp

theorem digits_neg (n : Int) (hn : I64 n) (h0 : n < 0) (w : World) :
    Calls Tryz.prog 53 #[.int .i64 n] w fun e w' => e = .returned (.string ⟨(Lib.itoa n).toArray⟩) ∧ Below w.heap.size w w' := by
  obtain ⟨n0, n1⟩ := hn
  obtain ⟨N, rfl⟩ : ∃ N : Nat, n = -(N : Int) := ⟨(-n).toNat, by omega⟩
  have u1 : IntKind.u64.wrap (-(N : Int)) = 18446744073709551616 - (N : Int) := by rw [IntKind.wrap_u64]; omega
  have u2 : IntKind.u64.wrap (-(18446744073709551616 - (N : Int))) = (N : Int) := by rw [IntKind.wrap_u64]; omega
  go_enter Tryz.func53, Tryz.ntmps53
  have nn : -(N : Int) < 0 := h0
  have hlen : (Lib.decDigits N).length + 1 ≤ 21 := by
    have := Lib.itoa_length_le (-(N : Int)) n0 n1
    unfold Lib.itoa at this
    rw [if_pos nn] at this
    simpa using this
  have HL := Lib.hid hlen
  clear hlen
  go_wp2
  go_loopw [3, 4] (fun u s wr => ∃ (v : Nat) (A : ByteArray), v ≤ 9223372036854775808 ∧ A.size ≤ 21 ∧ u = .int .u64 v ∧ s = .string A ∧ Hid (Lib.decDigits v ++ A.data.toList = Lib.decDigits N) ∧ Below w.heap.size w wr) (fun u _ _ => (intOf u).toNat)
  case atStart => exact ⟨N, ⟨#[]⟩, by omega, by decide, by congr 1; omega, rfl, by show _ = _; simp, Below.refl _ _⟩
  case round =>
    obtain ⟨v, A, hv, hA, rfl, rfl, hE, hB⟩ := hrel
    have HB := Lib.hid hB
    clear hB
    by_cases hlt : v < 10
    · have h9 : ¬ ((9 : Int) < (v : Int)) := by omega
      have kd0 := kd wr v hlt
      go_wp2
      have e8 : (48 + UInt8.ofNat v) = UInt8.ofNat (48 + v) := by
        rw [UInt8.ofNat_add]; rfl
      have hE' : ((⟨#[48 + UInt8.ofNat v]⟩ : ByteArray) ++ A) = ⟨(Lib.itoa (N : Int)).toArray⟩ := by
        have hE1 : Lib.decDigits v ++ A.data.toList = Lib.decDigits N := hE
        rw [dec_lt hlt] at hE1
        have e2 := app_list (48 + UInt8.ofNat v) A
        rw [e8] at e2 ⊢
        apply ByteArray.ext
        apply Array.toList_inj.1
        rw [e2]
        unfold Lib.itoa
        rw [if_neg (by omega)]
        simpa using hE1
      have HB' : Below w.heap.size w wr := HB
      have sz := HB'.size
      go_ret
      exact ⟨by rw [hE']; exact congrArg (fun b => Ending.returned (Value.string b)) (itoa_neg N h0), HB'.alloc sz _⟩
    · have h9 : (9 : Int) < (v : Int) := by omega
      have kc0 := kc wr v
      go_wp2
      have e8 : (48 + UInt8.ofNat (v % 10)) = UInt8.ofNat (48 + v % 10) := by
        rw [UInt8.ofNat_add]; rfl
      have hE' : Lib.decDigits (v / 10) ++ ((⟨#[48 + UInt8.ofNat (v % 10)]⟩ : ByteArray) ++ A).data.toList = Lib.decDigits N := by
        rw [app_list, e8]
        have hE1 : Lib.decDigits v ++ A.data.toList = Lib.decDigits N := hE
        rw [dec_step hlt] at hE1
        simpa using hE1
      have HB' : Below w.heap.size w wr := HB
      have sz := HB'.size
      refine ⟨⟨v / 10, _, by omega, ?_, by simp, rfl, hE', HB'.alloc sz _⟩, ?_⟩
      · have hl := congrArg List.length hE'
        have HL' : (Lib.decDigits N).length + 1 ≤ 21 := HL
        rw [List.length_append] at hl
        have hz : ∀ B : ByteArray, B.size = B.data.toList.length := fun B => by rw [Array.length_toList]; rfl
        rw [hz]
        omega
      · simp only [intOf]
        omega
theorem digits_any (n : Int) (hn : I64 n) (w : World) :
    Calls Tryz.prog 53 #[.int .i64 n] w fun e w' => e = .returned (.string ⟨(Lib.itoa n).toArray⟩) ∧ Below w.heap.size w w' := by
  by_cases h : 0 ≤ n
  · exact digits_pos n hn h w
  · exact digits_neg n hn (by omega) w
end Go.Proofs.YtbadingdklenhaaGreatDoor

/-
  The document's Print (layer 11): its numbers; texts of bytes put together.
-/
namespace Go.Proofs.YtbadingdklenhaaGreatDoor
set_option maxRecDepth 100000
open Go.RowKit

theorem app_ba (A : ByteArray) (l : List UInt8) : A ++ (⟨l.toArray⟩ : ByteArray) = ⟨(A.data.toList ++ l).toArray⟩ := by
  refine ba_same ?_
  rw [ByteArray.data_append]
  simp
theorem cat_list (A B : ByteArray) : (A ++ B).data.toList = A.data.toList ++ B.data.toList := by rw [ByteArray.data_append]; simp
set_option maxHeartbeats 1000000 in
theorem dnumber_any (n : Int) (hn : I64 n) (w : World) :
    Calls Tryz.prog 26 #[.int .i64 n] w fun e w' => e = .returned (.string ⟨(numT n).toArray⟩) ∧ Below w.heap.size w w' := by
  have D := digits_any n hn w
  have hl := Lib.itoa_length_le n hn.1 hn.2
  have e1 : (⟨#[32]⟩ : ByteArray) ++ ⟨(Lib.itoa n).toArray⟩ = ⟨(numT n).toArray⟩ := by
    refine ba_same ?_
    rw [cat_list, ba_list, ba_list]
    rfl
  rw [← ba_size] at hl
  generalize (⟨(Lib.itoa n).toArray⟩ : ByteArray) = v at *
  rw [← e1]
  clear e1
  go_enter Tryz.func26, Tryz.ntmps26
  go_wp2_with fail
  with_reducible refine D.mono ?_
  rintro e w1 ⟨rfl, b⟩
  have HB := Lib.hid b
  clear b D
  go_wp2
  go_ret
  exact ⟨rfl, HB.out⟩
end Go.Proofs.YtbadingdklenhaaGreatDoor

/-
  What the document's Print does with a knapsack that may be (layer 11).
-/
namespace Go.Proofs.YtbadingdklenhaaGreatDoor
set_option maxRecDepth 100000
open Go.RowKit

/-- What the document's Print tells of an instance that may be: with its text whole. -/
theorem rp_end {I : In} (hk : I.chk = 0) : ((instT I).length ≤ 1048576 ∧ prE I = 0 ∧ prT I = instT I) ∨ (1048576 < (instT I).length ∧ prE I = 7 ∧ prT I = []) := by
  by_cases h : (instT I).length ≤ 1048576
  · have he : prE I = 0 := by unfold prE; rw [if_pos hk, if_pos h]
    exact .inl ⟨h, he, by unfold prT; rw [he, if_pos rfl]⟩
  · have he : prE I = 7 := by unfold prE; rw [if_pos hk, if_neg h]
    exact .inr ⟨by omega, he, by unfold prT; rw [he, if_neg (by omega)]⟩
set_option maxHeartbeats 4000000 in
theorem rprint_knap (F G : Nat → Prop) (I : In) (v : Value) (w : World) (h : Ins F G w v I) (hc0 : I.chk = 0) (hk : I.kind = 0) :
    Calls Tryz.prog 10 #[v] w fun e w' => e = .returned (.tuple #[.string ⟨(prT I).toArray⟩, .int .i64 (prE I)]) ∧ Below w.heap.size w w' := by
  have CK := fun W a => rcheck_any F G I v W a
  rw [hc0] at CK
  have NB := fun n hn W => dnumber_any n hn W
  have hm := In.chk_may hc0
  have hcap := hm.cap
  have hil := hm.ilen
  have him := hm.items
  have hE := rp_end hc0
  have ei : instT I = kW ++ (10 :: (capW ++ (numT I.cap ++ (10 :: itemsT I.items)))) := by unfold instT; rw [if_pos hk]
  have hiT := itemsT_len I.items (fun p hp => by have := him p hp; exact ⟨⟨by omega, by omega⟩, ⟨by omega, by omega⟩⟩)
  have h64 : I64 I.cap := ⟨by omega, by omega⟩
  have hct := numT_len h64
  obtain ⟨vi, vc, vs, uc, us, rfl, hi, hc, hs⟩ := h.form
  obtain ⟨A0, C0, rfl, k0, m0⟩ := hi.form
  obtain ⟨A1, C1, rfl, k1, m1⟩ := hc.form
  obtain ⟨A2, C2, rfl, k2, m2⟩ := hs.form
  unfold maxLen at m0 m1 m2
  rw [hk] at CK ⊢
  obtain ⟨W1, hW1⟩ : ∃ W, W = w.alloc (.cells #[.int .i64 0, .int .i64 I.cap, .slice A0 I.items.length C0, .slice A1 I.cost.length C1, .int .i64 I.size, .slice A2 I.sets.length C2] 36) := ⟨_, rfl⟩
  have nb : Below w.heap.size w W1 := by rw [hW1]; exact new_below _ _
  have X1 : IBlk w.heap.size 36 (.int .i64 0) (.int .i64 I.cap) (.slice A0 I.items.length C0) (.slice A1 I.cost.length C1) (.int .i64 I.size) (.slice A2 I.sets.length C2) W1 := by rw [hW1]; exact iblk_new w _ _ _ _ _ _ _
  have HN1 : Ins F G W1 (.agg #[.int .i64 0, .int .i64 I.cap, .slice A0 I.items.length C0, .slice A1 I.cost.length C1, .int .i64 I.size, .slice A2 I.sets.length C2]) I := by
    have := h.next nb
    rw [hk] at this
    exact this
  have HI := Lib.hid (hi.next nb)
  have HX := Lib.hid X1
  have HB := Lib.hid nb
  have HIM := Lib.hid him
  have HE := Lib.hid hE
  have HEI := Lib.hid ei
  have C1' := CK _ HN1
  obtain ⟨x0, x1, x2, x3, x4, x5⟩ := X1.box
  have hlt := X1.lt
  clear h hi hc hs nb X1 HN1 hE ei him hm CK hk hc0
  go_enter Tryz.func10, Tryz.ntmps10
  go_wp2_with fail
  rw [← hW1]
  clear hW1
  with_reducible refine C1'.mono ?_
  rintro e w2 ⟨rfl, b2⟩
  obtain ⟨y0, y1, y2, y3, y4, y5⟩ := (HX.out.next b2).box
  have hlt2 : w.heap.size < w2.heap.size := (HX.out.next b2).lt
  have HB2 := Lib.hid (HB.out.trans (b2.mono HB.out.size))
  have HX2 := Lib.hid (HX.out.next b2)
  have HI2 := Lib.hid (HI.out.next b2)
  clear b2 C1' x0 x1 x2 x3 x4 x5 HX HB HI hlt
  go_wp2_with fail
  with_reducible refine (NB I.cap h64 _).mono ?_
  rintro e w3 ⟨rfl, b3⟩
  obtain ⟨z0, z1, z2, z3, z4, z5⟩ := (HX2.out.next b3).box
  have hlt3 : w.heap.size < w3.heap.size := (HX2.out.next b3).lt
  have HB3 := Lib.hid (HB2.out.trans (b3.mono HB2.out.size))
  have HX3 := Lib.hid (HX2.out.next b3)
  have HI3 := Lib.hid (HI2.out.next b3)
  clear b3 y0 y1 y2 y3 y4 y5 HX2 HB2 HI2 hlt2
  obtain ⟨cs, hcs⟩ : ∃ q : ByteArray, q = ⟨(numT I.cap).toArray⟩ := ⟨_, rfl⟩
  rw [← hcs]
  have hcl : cs.data.toList = numT I.cap := by rw [hcs, ba_list]
  have hcz : cs.size ≤ 22 := by rw [hcs, ba_size]; exact hct
  have HCL := Lib.hid hcl
  clear hcs hcl
  go_wp2
  go_loopw [5, 7] (fun s i wr => ∃ (k : Nat) (acc : ByteArray), k ≤ I.items.length ∧ s = .string acc ∧ i = .int .i64 (k : Nat) ∧ Hid (acc.data.toList ++ itemsT (I.items.drop k) = instT I) ∧ Hid (Below w3.heap.size w3 wr)) (fun _ i _ => I.items.length - (intOf i).toNat)
  case atStart => exact ⟨0, _, by omega, rfl, rfl, (by show _ = _; rw [HEI.out, cat_list, cat_list, HCL.out]; simp [kW, capW]), Below.refl _ _⟩
  case round =>
    obtain ⟨k, acc, hk, rfl, rfl, hQ, hR⟩ := hrel
    by_cases hlt : k < I.items.length
    · obtain ⟨g, off, x, rfl, _, hgl, hx, d0, d1⟩ := (HI3.out.next hR.out).get hlt
      have hq := hQ.out
      rw [itemsT_drop hx] at hq
      have hxm := HIM.out x (List.mem_of_getElem? hx)
      have g1 : I64 x.1 := ⟨by omega, by omega⟩
      have g2 : I64 x.2 := ⟨by omega, by omega⟩
      have hl1 := numT_len g1
      have hl2 := numT_len g2
      have hll := congrArg List.length hq
      rw [HEI.out] at hll
      simp only [List.length_append, List.length_cons] at hll
      have hw1 : kW.length = 8 := rfl
      have hw2 : capW.length = 8 := rfl
      have hw3 : itemW.length = 4 := rfl
      have has := size_list acc
      have c01 : (0 : Int) ≤ (k : Int) := by omega
      have c02 : (k : Int) < (I.items.length : Int) := by omega
      have HXR := Lib.hid (HX3.out.next hR.out)
      obtain ⟨z0, z1, z2, z3, z4, z5⟩ := HXR.out.box
      have hlr := HXR.out.lt
      have HQ := Lib.hid hq
      clear hQ hq hxm hx
      go_wp2_with fail
      with_reducible refine (NB x.1 g1 _).mono ?_
      rintro e w5 ⟨rfl, b5⟩
      obtain ⟨v1, hv1⟩ : ∃ q : ByteArray, q = ⟨(numT x.1).toArray⟩ := ⟨_, rfl⟩
      rw [← hv1]
      have hvl1 : v1.data.toList = numT x.1 := by rw [hv1, ba_list]
      have hvz1 : v1.size ≤ 22 := by rw [hv1, ba_size]; exact hl1
      have HV1 := Lib.hid hvl1
      have HX5 := Lib.hid (HXR.out.next b5)
      obtain ⟨y0, y1, y2, y3, y4, y5⟩ := HX5.out.box
      have hl5 := HX5.out.lt
      have e1 := (b5.cell (p := ⟨g, off + k * 2 + 1, none⟩) hgl).trans d1
      have hg5 : g < w5.heap.size := Nat.lt_of_lt_of_le hgl b5.size
      have HR5 := Lib.hid (hR.out.trans (b5.mono hR.out.size))
      clear hv1 hvl1 b5 HXR z0 z1 z2 z3 z4 z5 d0 d1 hgl hlr hR
      go_wp2_with fail
      with_reducible refine (NB x.2 g2 _).mono ?_
      rintro e w6 ⟨rfl, b6⟩
      obtain ⟨v2, hv2⟩ : ∃ q : ByteArray, q = ⟨(numT x.2).toArray⟩ := ⟨_, rfl⟩
      rw [← hv2]
      have hvl2 : v2.data.toList = numT x.2 := by rw [hv2, ba_list]
      have hvz2 : v2.size ≤ 22 := by rw [hv2, ba_size]; exact hl2
      have HV2 := Lib.hid hvl2
      have HR6 := Lib.hid (HR5.out.trans (b6.mono HR5.out.size))
      have HQ2 : Hid ((acc ++ ⟨#[105, 116, 101, 109]⟩ ++ v1 ++ v2 ++ ⟨#[10]⟩).data.toList ++ itemsT (I.items.drop (k + 1)) = instT I) := by
        show _ = _
        rw [← HQ.out, cat_list, cat_list, cat_list, cat_list, HV1.out, HV2.out]
        simp [itemW]
      clear hv2 hvl2 b6 HX5 y0 y1 y2 y3 y4 y5 e1 hg5 HR5 HQ HV1 HV2 NB
      go_wp2
      go_roundw
      case rel => exact ⟨k + 1, _, by omega, rfl, by go_num, HQ2, HR6⟩
      case measure => simp [intOf]; omega
    · obtain rfl : k = I.items.length := by omega
      have hq := hQ.out
      rw [List.drop_eq_nil_of_le (Nat.le_refl _)] at hq
      simp only [itemsT, List.append_nil] at hq
      have HXR := Lib.hid (HX3.out.next hR.out)
      obtain ⟨z0, z1, z2, z3, z4, z5⟩ := HXR.out.box
      have hlr := HXR.out.lt
      have HBR := Lib.hid (HB3.out.trans (hR.out.mono HB3.out.size))
      have has := size_list acc
      rw [hq] at has
      have hqe : acc = ⟨(instT I).toArray⟩ := ba_same (by rw [ba_list]; exact hq)
      have HQ := Lib.hid hqe
      clear hq hQ hR hqe HX3 HI3 HB3 NB
      rcases HE.out with ⟨h1, h2, h3⟩ | ⟨h1, h2, h3⟩
      · have hsz : ¬ (1048576 : Int) < (acc.size : Int) := by omega
        have HAN := Lib.hid (And.intro h2 h3)
        clear h1 h2 h3 HE has HEI
        go_wp2
        go_ret2
        exact ⟨by rw [HAN.out.1, HAN.out.2, ← HQ.out]; rfl, HBR.out⟩
      · have hsz : (1048576 : Int) < (acc.size : Int) := by omega
        have HAN := Lib.hid (And.intro h2 h3)
        clear h1 h2 h3 HE has HEI
        go_wp2
        go_ret2
        exact ⟨by rw [HAN.out.1, HAN.out.2]; rfl, HBR.out⟩
end Go.Proofs.YtbadingdklenhaaGreatDoor

/-
  What the document's Print does with an assignment, a tsp that may be (layer 11). Written by tools/genshowref.py.
-/
namespace Go.Proofs.YtbadingdklenhaaGreatDoor
set_option maxRecDepth 100000
open Go.RowKit

set_option maxHeartbeats 4000000 in
theorem rprint_sq1 (F G : Nat → Prop) (I : In) (v : Value) (w : World) (h : Ins F G w v I) (hc0 : I.chk = 0) (hk : I.kind = 1) :
    Calls Tryz.prog 10 #[v] w fun e w' => e = .returned (.tuple #[.string ⟨(prT I).toArray⟩, .int .i64 (prE I)]) ∧ Below w.heap.size w w' := by
  have CK := fun W a => rcheck_any F G I v W a
  rw [hc0] at CK
  have NB := fun n hn W => dnumber_any n hn W
  have hm := In.chk_may hc0
  have hclen := hm.clen
  have hslen := hm.slen
  have hsz := hm.size
  have hcm := hm.cost
  have hsm := hm.sets
  have hE := rp_end hc0
  have ei : instT I = aW ++ (numT I.cost.length ++ (10 :: rowsT I.cost)) := by unfold instT; rw [if_neg (by omega), if_neg (by omega), if_pos hk]
  have hrT := rowsT_len (m := 64) I.cost (fun r hr => ⟨by have := (hcm r hr).1; omega, fun n hn => by have := (hcm r hr).2 n hn; exact ⟨by omega, by omega⟩⟩)
  have hn0 : 0 < I.cost.length := by have := hm.sq (by omega); omega
  have h64 : I64 (I.cost.length : Int) := ⟨by omega, by omega⟩
  have hct := numT_len h64
  have hTL : (instT I).length ≤ 600000000 := by
    rw [ei]
    simp only [List.length_append, List.length_cons]
    have hw1 : aW.length = 10 := rfl
    have hw2 : tW.length = 3 := rfl
    have hw3 : cW.length = 5 := rfl
    omega
  obtain ⟨vi, vc, vs, uc, us, rfl, hi, hc, hs⟩ := h.form
  obtain ⟨A0, C0, rfl, k0, m0⟩ := hi.form
  obtain ⟨A1, C1, rfl, k1, m1⟩ := hc.form
  obtain ⟨A2, C2, rfl, k2, m2⟩ := hs.form
  unfold maxLen at m0 m1 m2
  rw [hk] at CK ⊢
  obtain ⟨W1, hW1⟩ : ∃ W, W = w.alloc (.cells #[.int .i64 1, .int .i64 I.cap, .slice A0 I.items.length C0, .slice A1 I.cost.length C1, .int .i64 I.size, .slice A2 I.sets.length C2] 36) := ⟨_, rfl⟩
  have nb : Below w.heap.size w W1 := by rw [hW1]; exact new_below _ _
  have X1 : IBlk w.heap.size 36 (.int .i64 1) (.int .i64 I.cap) (.slice A0 I.items.length C0) (.slice A1 I.cost.length C1) (.int .i64 I.size) (.slice A2 I.sets.length C2) W1 := by rw [hW1]; exact iblk_new w _ _ _ _ _ _ _
  have HN1 : Ins F G W1 (.agg #[.int .i64 1, .int .i64 I.cap, .slice A0 I.items.length C0, .slice A1 I.cost.length C1, .int .i64 I.size, .slice A2 I.sets.length C2]) I := by
    have := h.next nb
    rw [hk] at this
    exact this
  have HCO := Lib.hid (hc.next nb)
  have HSE := Lib.hid (hs.next nb)
  have HX := Lib.hid X1
  have HB := Lib.hid nb
  have HCM := Lib.hid hcm
  have HSM := Lib.hid hsm
  have HE := Lib.hid hE
  have HEI := Lib.hid ei
  have C1' := CK _ HN1
  obtain ⟨x0, x1, x2, x3, x4, x5⟩ := X1.box
  have hlt := X1.lt
  clear h hi hc hs nb X1 HN1 hE ei hcm hsm hm CK hk hc0 hrT
  go_enter Tryz.func10, Tryz.ntmps10
  go_wp2_with fail
  rw [← hW1]
  clear hW1
  with_reducible refine C1'.mono ?_
  rintro e w2 ⟨rfl, b2⟩
  obtain ⟨y0, y1, y2, y3, y4, y5⟩ := (HX.out.next b2).box
  have hlt2 : w.heap.size < w2.heap.size := (HX.out.next b2).lt
  have HB2 := Lib.hid (HB.out.trans (b2.mono HB.out.size))
  have HX2 := Lib.hid (HX.out.next b2)
  have HCO2 := Lib.hid (HCO.out.next b2)
  have HSE2 := Lib.hid (HSE.out.next b2)
  clear b2 C1' x0 x1 x2 x3 x4 x5 HX HB HCO HSE hlt
  go_wp2_with fail
  with_reducible refine (NB (I.cost.length : Int) h64 _).mono ?_
  rintro e w3 ⟨rfl, b3⟩
  obtain ⟨z0, z1, z2, z3, z4, z5⟩ := (HX2.out.next b3).box
  have hlt3 : w.heap.size < w3.heap.size := (HX2.out.next b3).lt
  have HB3 := Lib.hid (HB2.out.trans (b3.mono HB2.out.size))
  have HX3 := Lib.hid (HX2.out.next b3)
  have HCO3 := Lib.hid (HCO2.out.next b3)
  have HSE3 := Lib.hid (HSE2.out.next b3)
  clear b3 y0 y1 y2 y3 y4 y5 HX2 HB2 HCO2 HSE2 hlt2
  obtain ⟨cs, hcs⟩ : ∃ q : ByteArray, q = ⟨(numT (I.cost.length : Int)).toArray⟩ := ⟨_, rfl⟩
  rw [← hcs]
  have hcl : cs.data.toList = numT (I.cost.length : Int) := by rw [hcs, ba_list]
  have hcz : cs.size ≤ 22 := by rw [hcs, ba_size]; exact hct
  have HCL := Lib.hid hcl
  clear hcs hcl
  go_wp2
  go_loopw [5, 11] (fun s i wr => ∃ (k : Nat) (acc : ByteArray), k ≤ I.cost.length ∧ s = .string acc ∧ i = .int .i64 (k : Nat) ∧ Hid (acc.data.toList ++ rowsT (I.cost.drop k) = instT I) ∧ Hid (Below w3.heap.size w3 wr)) (fun _ i _ => I.cost.length - (intOf i).toNat)
  case atStart => exact ⟨0, _, by omega, rfl, rfl, (by show _ = _; rw [HEI.out, cat_list, cat_list, HCL.out]; simp [aW]), Below.refl _ _⟩
  case round =>
    obtain ⟨k, acc, hk, rfl, rfl, hQ, hR⟩ := hrel
    obtain ⟨wO, hwO⟩ : ∃ x, x = wr := ⟨wr, rfl⟩
    subst hwO
    by_cases hlt : k < I.cost.length
    · obtain ⟨g, off, r, A', C', rfl, _, hgl, hx, d0, _, hC', hM', hI⟩ := (HCO3.out.next hR.out).get hlt
      unfold maxLen at hM'
      have hq := hQ.out
      rw [rowsT_drop hx] at hq
      have hrm := (HCM.out r (List.mem_of_getElem? hx)).2
      have hr64 : ∀ n ∈ r, I64 n := fun n hn => by have := hrm n hn; exact ⟨by omega, by omega⟩
      have hll := congrArg List.length hq
      simp only [List.length_append, List.length_cons] at hll
      have hw3 : rowW.length = 3 := rfl
      have has := size_list acc
      have c01 : (0 : Int) ≤ (k : Int) := by omega
      have c02 : (k : Int) < (I.cost.length : Int) := by omega
      have HXR := Lib.hid (HX3.out.next hR.out)
      obtain ⟨z0, z1, z2, z3, z4, z5⟩ := HXR.out.box
      have hlr := HXR.out.lt
      have HD0 := Lib.hid d0
      have HIR := Lib.hid hI
      have HQ : Hid ((acc ++ ⟨#[114, 111, 119]⟩).data.toList ++ (numsT (r.drop 0) ++ (10 :: rowsT (I.cost.drop (k + 1)))) = instT I) := by
        show _ = _
        rw [← hq, cat_list]
        simp [rowW]
      clear hQ hq hx hrm hI
      go_wp2
      go_loopw [5, 12] (fun s j wr => ∃ (m : Nat) (bcc : ByteArray), m ≤ r.length ∧ s = .string bcc ∧ j = .int .i64 (m : Nat) ∧ Hid (bcc.data.toList ++ (numsT (r.drop m) ++ (10 :: rowsT (I.cost.drop (k + 1)))) = instT I) ∧ Hid (Below wO.heap.size wO wr)) (fun _ j _ => r.length - (intOf j).toNat)
      case atStart => exact ⟨0, _, by omega, rfl, rfl, HQ.out, Below.refl _ _⟩
      case round =>
        obtain ⟨m, bcc, hm, rfl, rfl, hQ2, hR2⟩ := hrel
        have HXS := Lib.hid (HXR.out.next hR2.out)
        obtain ⟨z0, z1, z2, z3, z4, z5⟩ := HXS.out.box
        have hls := HXS.out.lt
        have hgs : g < wr.heap.size := Nat.lt_of_lt_of_le hgl hR2.out.size
        have d5 := (hR2.out.cell (p := ⟨g, off + k, none⟩) hgl).trans HD0.out
        have hbs := size_list bcc
        by_cases hmt : m < r.length
        · obtain ⟨g2, o2, x, rfl, _, hg2, hxx, d1⟩ := (HIR.out.next hR2.out).get hmt
          have hq := hQ2.out
          rw [numsT_drop hxx] at hq
          have gx : I64 x := hr64 x (List.mem_of_getElem? hxx)
          have hl1 := numT_len gx
          have hll := congrArg List.length hq
          simp only [List.length_append, List.length_cons] at hll
          have e01 : (0 : Int) ≤ (m : Int) := by omega
          have e02 : (m : Int) < (r.length : Int) := by omega
          have HQ3 := Lib.hid hq
          clear hq hQ2 hxx
          go_wp2_with fail
          with_reducible refine (NB x gx _).mono ?_
          rintro e w5 ⟨rfl, b5⟩
          obtain ⟨v1, hv1⟩ : ∃ q : ByteArray, q = ⟨(numT x).toArray⟩ := ⟨_, rfl⟩
          rw [← hv1]
          have hvl1 : v1.data.toList = numT x := by rw [hv1, ba_list]
          have hvz1 : v1.size ≤ 22 := by rw [hv1, ba_size]; exact hl1
          have HR5 := Lib.hid (hR2.out.trans (b5.mono hR2.out.size))
          have HQ4 : Hid ((bcc ++ v1).data.toList ++ (numsT (r.drop (m + 1)) ++ (10 :: rowsT (I.cost.drop (k + 1)))) = instT I) := by
            show _ = _
            rw [← HQ3.out, cat_list, hvl1]
            simp
          clear hv1 hvl1 b5 HXS z0 z1 z2 z3 z4 z5 d1 d5 hg2 hls hR2 HQ3
          go_wp2
          go_roundw
          case rel => exact ⟨m + 1, _, by omega, rfl, by go_num, HQ4, HR5⟩
          case measure => simp [intOf]; omega
        · obtain rfl : m = r.length := by omega
          have hq := hQ2.out
          rw [List.drop_eq_nil_of_le (Nat.le_refl _)] at hq
          have HQ5 : Hid ((bcc ++ ⟨#[10]⟩).data.toList ++ rowsT (I.cost.drop (k + 1)) = instT I) := by
            show _ = _
            rw [← hq, cat_list]
            simp [numsT]
          have hll := congrArg List.length hq
          simp only [List.length_append, List.length_cons] at hll
          have HR5 := Lib.hid (hR.out.trans (hR2.out.mono hR.out.size))
          clear hq hQ2 hR2
          go_wp2
          go_roundw
          case rel => exact ⟨k + 1, _, by omega, rfl, by go_num, HQ5, HR5⟩
          case measure => simp [intOf]; omega
    · obtain rfl : k = I.cost.length := by omega
      have hq := hQ.out
      rw [List.drop_eq_nil_of_le (Nat.le_refl _)] at hq
      simp only [rowsT, List.append_nil] at hq
      have HXR := Lib.hid (HX3.out.next hR.out)
      obtain ⟨z0, z1, z2, z3, z4, z5⟩ := HXR.out.box
      have hlr := HXR.out.lt
      have HBR := Lib.hid (HB3.out.trans (hR.out.mono HB3.out.size))
      have has := size_list acc
      rw [hq] at has
      have hqe : acc = ⟨(instT I).toArray⟩ := ba_same (by rw [ba_list]; exact hq)
      have HQ := Lib.hid hqe
      clear hq hQ hR hqe HX3 HCO3 HSE3 HB3 NB
      rcases HE.out with ⟨h1, h2, h3⟩ | ⟨h1, h2, h3⟩
      · have hsz : ¬ (1048576 : Int) < (acc.size : Int) := by omega
        have HAN := Lib.hid (And.intro h2 h3)
        clear h1 h2 h3 HE has HEI
        go_wp2
        go_ret2
        exact ⟨by rw [HAN.out.1, HAN.out.2, ← HQ.out]; rfl, HBR.out⟩
      · have hsz : (1048576 : Int) < (acc.size : Int) := by omega
        have HAN := Lib.hid (And.intro h2 h3)
        clear h1 h2 h3 HE has HEI
        go_wp2
        go_ret2
        exact ⟨by rw [HAN.out.1, HAN.out.2]; rfl, HBR.out⟩

set_option maxHeartbeats 4000000 in
theorem rprint_sq2 (F G : Nat → Prop) (I : In) (v : Value) (w : World) (h : Ins F G w v I) (hc0 : I.chk = 0) (hk : I.kind = 2) :
    Calls Tryz.prog 10 #[v] w fun e w' => e = .returned (.tuple #[.string ⟨(prT I).toArray⟩, .int .i64 (prE I)]) ∧ Below w.heap.size w w' := by
  have CK := fun W a => rcheck_any F G I v W a
  rw [hc0] at CK
  have NB := fun n hn W => dnumber_any n hn W
  have hm := In.chk_may hc0
  have hclen := hm.clen
  have hslen := hm.slen
  have hsz := hm.size
  have hcm := hm.cost
  have hsm := hm.sets
  have hE := rp_end hc0
  have ei : instT I = tW ++ (numT I.cost.length ++ (10 :: rowsT I.cost)) := by unfold instT; rw [if_neg (by omega), if_neg (by omega), if_neg (by omega)]
  have hrT := rowsT_len (m := 64) I.cost (fun r hr => ⟨by have := (hcm r hr).1; omega, fun n hn => by have := (hcm r hr).2 n hn; exact ⟨by omega, by omega⟩⟩)
  have hn0 : 0 < I.cost.length := by have := hm.sq (by omega); omega
  have h64 : I64 (I.cost.length : Int) := ⟨by omega, by omega⟩
  have hct := numT_len h64
  have hTL : (instT I).length ≤ 600000000 := by
    rw [ei]
    simp only [List.length_append, List.length_cons]
    have hw1 : aW.length = 10 := rfl
    have hw2 : tW.length = 3 := rfl
    have hw3 : cW.length = 5 := rfl
    omega
  obtain ⟨vi, vc, vs, uc, us, rfl, hi, hc, hs⟩ := h.form
  obtain ⟨A0, C0, rfl, k0, m0⟩ := hi.form
  obtain ⟨A1, C1, rfl, k1, m1⟩ := hc.form
  obtain ⟨A2, C2, rfl, k2, m2⟩ := hs.form
  unfold maxLen at m0 m1 m2
  rw [hk] at CK ⊢
  obtain ⟨W1, hW1⟩ : ∃ W, W = w.alloc (.cells #[.int .i64 2, .int .i64 I.cap, .slice A0 I.items.length C0, .slice A1 I.cost.length C1, .int .i64 I.size, .slice A2 I.sets.length C2] 36) := ⟨_, rfl⟩
  have nb : Below w.heap.size w W1 := by rw [hW1]; exact new_below _ _
  have X1 : IBlk w.heap.size 36 (.int .i64 2) (.int .i64 I.cap) (.slice A0 I.items.length C0) (.slice A1 I.cost.length C1) (.int .i64 I.size) (.slice A2 I.sets.length C2) W1 := by rw [hW1]; exact iblk_new w _ _ _ _ _ _ _
  have HN1 : Ins F G W1 (.agg #[.int .i64 2, .int .i64 I.cap, .slice A0 I.items.length C0, .slice A1 I.cost.length C1, .int .i64 I.size, .slice A2 I.sets.length C2]) I := by
    have := h.next nb
    rw [hk] at this
    exact this
  have HCO := Lib.hid (hc.next nb)
  have HSE := Lib.hid (hs.next nb)
  have HX := Lib.hid X1
  have HB := Lib.hid nb
  have HCM := Lib.hid hcm
  have HSM := Lib.hid hsm
  have HE := Lib.hid hE
  have HEI := Lib.hid ei
  have C1' := CK _ HN1
  obtain ⟨x0, x1, x2, x3, x4, x5⟩ := X1.box
  have hlt := X1.lt
  clear h hi hc hs nb X1 HN1 hE ei hcm hsm hm CK hk hc0 hrT
  go_enter Tryz.func10, Tryz.ntmps10
  go_wp2_with fail
  rw [← hW1]
  clear hW1
  with_reducible refine C1'.mono ?_
  rintro e w2 ⟨rfl, b2⟩
  obtain ⟨y0, y1, y2, y3, y4, y5⟩ := (HX.out.next b2).box
  have hlt2 : w.heap.size < w2.heap.size := (HX.out.next b2).lt
  have HB2 := Lib.hid (HB.out.trans (b2.mono HB.out.size))
  have HX2 := Lib.hid (HX.out.next b2)
  have HCO2 := Lib.hid (HCO.out.next b2)
  have HSE2 := Lib.hid (HSE.out.next b2)
  clear b2 C1' x0 x1 x2 x3 x4 x5 HX HB HCO HSE hlt
  go_wp2_with fail
  with_reducible refine (NB (I.cost.length : Int) h64 _).mono ?_
  rintro e w3 ⟨rfl, b3⟩
  obtain ⟨z0, z1, z2, z3, z4, z5⟩ := (HX2.out.next b3).box
  have hlt3 : w.heap.size < w3.heap.size := (HX2.out.next b3).lt
  have HB3 := Lib.hid (HB2.out.trans (b3.mono HB2.out.size))
  have HX3 := Lib.hid (HX2.out.next b3)
  have HCO3 := Lib.hid (HCO2.out.next b3)
  have HSE3 := Lib.hid (HSE2.out.next b3)
  clear b3 y0 y1 y2 y3 y4 y5 HX2 HB2 HCO2 HSE2 hlt2
  obtain ⟨cs, hcs⟩ : ∃ q : ByteArray, q = ⟨(numT (I.cost.length : Int)).toArray⟩ := ⟨_, rfl⟩
  rw [← hcs]
  have hcl : cs.data.toList = numT (I.cost.length : Int) := by rw [hcs, ba_list]
  have hcz : cs.size ≤ 22 := by rw [hcs, ba_size]; exact hct
  have HCL := Lib.hid hcl
  clear hcs hcl
  go_wp2
  go_loopw [5, 11] (fun s i wr => ∃ (k : Nat) (acc : ByteArray), k ≤ I.cost.length ∧ s = .string acc ∧ i = .int .i64 (k : Nat) ∧ Hid (acc.data.toList ++ rowsT (I.cost.drop k) = instT I) ∧ Hid (Below w3.heap.size w3 wr)) (fun _ i _ => I.cost.length - (intOf i).toNat)
  case atStart => exact ⟨0, _, by omega, rfl, rfl, (by show _ = _; rw [HEI.out, cat_list, cat_list, HCL.out]; simp [tW]), Below.refl _ _⟩
  case round =>
    obtain ⟨k, acc, hk, rfl, rfl, hQ, hR⟩ := hrel
    obtain ⟨wO, hwO⟩ : ∃ x, x = wr := ⟨wr, rfl⟩
    subst hwO
    by_cases hlt : k < I.cost.length
    · obtain ⟨g, off, r, A', C', rfl, _, hgl, hx, d0, _, hC', hM', hI⟩ := (HCO3.out.next hR.out).get hlt
      unfold maxLen at hM'
      have hq := hQ.out
      rw [rowsT_drop hx] at hq
      have hrm := (HCM.out r (List.mem_of_getElem? hx)).2
      have hr64 : ∀ n ∈ r, I64 n := fun n hn => by have := hrm n hn; exact ⟨by omega, by omega⟩
      have hll := congrArg List.length hq
      simp only [List.length_append, List.length_cons] at hll
      have hw3 : rowW.length = 3 := rfl
      have has := size_list acc
      have c01 : (0 : Int) ≤ (k : Int) := by omega
      have c02 : (k : Int) < (I.cost.length : Int) := by omega
      have HXR := Lib.hid (HX3.out.next hR.out)
      obtain ⟨z0, z1, z2, z3, z4, z5⟩ := HXR.out.box
      have hlr := HXR.out.lt
      have HD0 := Lib.hid d0
      have HIR := Lib.hid hI
      have HQ : Hid ((acc ++ ⟨#[114, 111, 119]⟩).data.toList ++ (numsT (r.drop 0) ++ (10 :: rowsT (I.cost.drop (k + 1)))) = instT I) := by
        show _ = _
        rw [← hq, cat_list]
        simp [rowW]
      clear hQ hq hx hrm hI
      go_wp2
      go_loopw [5, 12] (fun s j wr => ∃ (m : Nat) (bcc : ByteArray), m ≤ r.length ∧ s = .string bcc ∧ j = .int .i64 (m : Nat) ∧ Hid (bcc.data.toList ++ (numsT (r.drop m) ++ (10 :: rowsT (I.cost.drop (k + 1)))) = instT I) ∧ Hid (Below wO.heap.size wO wr)) (fun _ j _ => r.length - (intOf j).toNat)
      case atStart => exact ⟨0, _, by omega, rfl, rfl, HQ.out, Below.refl _ _⟩
      case round =>
        obtain ⟨m, bcc, hm, rfl, rfl, hQ2, hR2⟩ := hrel
        have HXS := Lib.hid (HXR.out.next hR2.out)
        obtain ⟨z0, z1, z2, z3, z4, z5⟩ := HXS.out.box
        have hls := HXS.out.lt
        have hgs : g < wr.heap.size := Nat.lt_of_lt_of_le hgl hR2.out.size
        have d5 := (hR2.out.cell (p := ⟨g, off + k, none⟩) hgl).trans HD0.out
        have hbs := size_list bcc
        by_cases hmt : m < r.length
        · obtain ⟨g2, o2, x, rfl, _, hg2, hxx, d1⟩ := (HIR.out.next hR2.out).get hmt
          have hq := hQ2.out
          rw [numsT_drop hxx] at hq
          have gx : I64 x := hr64 x (List.mem_of_getElem? hxx)
          have hl1 := numT_len gx
          have hll := congrArg List.length hq
          simp only [List.length_append, List.length_cons] at hll
          have e01 : (0 : Int) ≤ (m : Int) := by omega
          have e02 : (m : Int) < (r.length : Int) := by omega
          have HQ3 := Lib.hid hq
          clear hq hQ2 hxx
          go_wp2_with fail
          with_reducible refine (NB x gx _).mono ?_
          rintro e w5 ⟨rfl, b5⟩
          obtain ⟨v1, hv1⟩ : ∃ q : ByteArray, q = ⟨(numT x).toArray⟩ := ⟨_, rfl⟩
          rw [← hv1]
          have hvl1 : v1.data.toList = numT x := by rw [hv1, ba_list]
          have hvz1 : v1.size ≤ 22 := by rw [hv1, ba_size]; exact hl1
          have HR5 := Lib.hid (hR2.out.trans (b5.mono hR2.out.size))
          have HQ4 : Hid ((bcc ++ v1).data.toList ++ (numsT (r.drop (m + 1)) ++ (10 :: rowsT (I.cost.drop (k + 1)))) = instT I) := by
            show _ = _
            rw [← HQ3.out, cat_list, hvl1]
            simp
          clear hv1 hvl1 b5 HXS z0 z1 z2 z3 z4 z5 d1 d5 hg2 hls hR2 HQ3
          go_wp2
          go_roundw
          case rel => exact ⟨m + 1, _, by omega, rfl, by go_num, HQ4, HR5⟩
          case measure => simp [intOf]; omega
        · obtain rfl : m = r.length := by omega
          have hq := hQ2.out
          rw [List.drop_eq_nil_of_le (Nat.le_refl _)] at hq
          have HQ5 : Hid ((bcc ++ ⟨#[10]⟩).data.toList ++ rowsT (I.cost.drop (k + 1)) = instT I) := by
            show _ = _
            rw [← hq, cat_list]
            simp [numsT]
          have hll := congrArg List.length hq
          simp only [List.length_append, List.length_cons] at hll
          have HR5 := Lib.hid (hR.out.trans (hR2.out.mono hR.out.size))
          clear hq hQ2 hR2
          go_wp2
          go_roundw
          case rel => exact ⟨k + 1, _, by omega, rfl, by go_num, HQ5, HR5⟩
          case measure => simp [intOf]; omega
    · obtain rfl : k = I.cost.length := by omega
      have hq := hQ.out
      rw [List.drop_eq_nil_of_le (Nat.le_refl _)] at hq
      simp only [rowsT, List.append_nil] at hq
      have HXR := Lib.hid (HX3.out.next hR.out)
      obtain ⟨z0, z1, z2, z3, z4, z5⟩ := HXR.out.box
      have hlr := HXR.out.lt
      have HBR := Lib.hid (HB3.out.trans (hR.out.mono HB3.out.size))
      have has := size_list acc
      rw [hq] at has
      have hqe : acc = ⟨(instT I).toArray⟩ := ba_same (by rw [ba_list]; exact hq)
      have HQ := Lib.hid hqe
      clear hq hQ hR hqe HX3 HCO3 HSE3 HB3 NB
      rcases HE.out with ⟨h1, h2, h3⟩ | ⟨h1, h2, h3⟩
      · have hsz : ¬ (1048576 : Int) < (acc.size : Int) := by omega
        have HAN := Lib.hid (And.intro h2 h3)
        clear h1 h2 h3 HE has HEI
        go_wp2
        go_ret2
        exact ⟨by rw [HAN.out.1, HAN.out.2, ← HQ.out]; rfl, HBR.out⟩
      · have hsz : (1048576 : Int) < (acc.size : Int) := by omega
        have HAN := Lib.hid (And.intro h2 h3)
        clear h1 h2 h3 HE has HEI
        go_wp2
        go_ret2
        exact ⟨by rw [HAN.out.1, HAN.out.2]; rfl, HBR.out⟩
end Go.Proofs.YtbadingdklenhaaGreatDoor

/-
  What the document's Print does with a cover that may be (layer 11). Written by tools/genshowref.py.
-/
namespace Go.Proofs.YtbadingdklenhaaGreatDoor
set_option maxRecDepth 100000
open Go.RowKit

set_option maxHeartbeats 4000000 in
theorem rprint_cv (F G : Nat → Prop) (I : In) (v : Value) (w : World) (h : Ins F G w v I) (hc0 : I.chk = 0) (hk : I.kind = 3) :
    Calls Tryz.prog 10 #[v] w fun e w' => e = .returned (.tuple #[.string ⟨(prT I).toArray⟩, .int .i64 (prE I)]) ∧ Below w.heap.size w w' := by
  have CK := fun W a => rcheck_any F G I v W a
  rw [hc0] at CK
  have NB := fun n hn W => dnumber_any n hn W
  have hm := In.chk_may hc0
  have hclen := hm.clen
  have hslen := hm.slen
  have hsz := hm.size
  have hcm := hm.cost
  have hsm := hm.sets
  have hE := rp_end hc0
  have ei : instT I = cW ++ (numT I.size ++ (10 :: setsT I.sets)) := by unfold instT; rw [if_neg (by omega), if_pos hk]
  have hel : ∀ s ∈ I.sets, s.2.length ≤ 4096 := fun s hs => by
    have := ris_len _ _ (hsm s hs).2 hsz.1
    omega
  have hrT0 := setsT_len (m := 4096) I.sets (fun s hs => by
    have h1 := hsm s hs
    exact ⟨hel s hs, ⟨by omega, by omega⟩, fun n hn => by have h2 := ris_in _ _ h1.2 n hn; exact ⟨by omega, by omega⟩⟩)
  have hrT : (setsT I.sets).length ≤ 500000000 := Nat.le_trans hrT0 (by
    have := Nat.mul_le_mul_left (22 * 4096 + 27) hslen
    omega)
  clear hrT0 hel
  have h64 : I64 I.size := ⟨by omega, by omega⟩
  have hct := numT_len h64
  have hTL : (instT I).length ≤ 600000000 := by
    rw [ei]
    simp only [List.length_append, List.length_cons]
    have hw1 : aW.length = 10 := rfl
    have hw2 : tW.length = 3 := rfl
    have hw3 : cW.length = 5 := rfl
    omega
  obtain ⟨vi, vc, vs, uc, us, rfl, hi, hc, hs⟩ := h.form
  obtain ⟨A0, C0, rfl, k0, m0⟩ := hi.form
  obtain ⟨A1, C1, rfl, k1, m1⟩ := hc.form
  obtain ⟨A2, C2, rfl, k2, m2⟩ := hs.form
  unfold maxLen at m0 m1 m2
  rw [hk] at CK ⊢
  obtain ⟨W1, hW1⟩ : ∃ W, W = w.alloc (.cells #[.int .i64 3, .int .i64 I.cap, .slice A0 I.items.length C0, .slice A1 I.cost.length C1, .int .i64 I.size, .slice A2 I.sets.length C2] 36) := ⟨_, rfl⟩
  have nb : Below w.heap.size w W1 := by rw [hW1]; exact new_below _ _
  have X1 : IBlk w.heap.size 36 (.int .i64 3) (.int .i64 I.cap) (.slice A0 I.items.length C0) (.slice A1 I.cost.length C1) (.int .i64 I.size) (.slice A2 I.sets.length C2) W1 := by rw [hW1]; exact iblk_new w _ _ _ _ _ _ _
  have HN1 : Ins F G W1 (.agg #[.int .i64 3, .int .i64 I.cap, .slice A0 I.items.length C0, .slice A1 I.cost.length C1, .int .i64 I.size, .slice A2 I.sets.length C2]) I := by
    have := h.next nb
    rw [hk] at this
    exact this
  have HCO := Lib.hid (hc.next nb)
  have HSE := Lib.hid (hs.next nb)
  have HX := Lib.hid X1
  have HB := Lib.hid nb
  have HCM := Lib.hid hcm
  have HSM := Lib.hid hsm
  have HE := Lib.hid hE
  have HEI := Lib.hid ei
  have C1' := CK _ HN1
  obtain ⟨x0, x1, x2, x3, x4, x5⟩ := X1.box
  have hlt := X1.lt
  clear h hi hc hs nb X1 HN1 hE ei hcm hsm hm CK hk hc0 hrT
  go_enter Tryz.func10, Tryz.ntmps10
  go_wp2_with fail
  rw [← hW1]
  clear hW1
  with_reducible refine C1'.mono ?_
  rintro e w2 ⟨rfl, b2⟩
  obtain ⟨y0, y1, y2, y3, y4, y5⟩ := (HX.out.next b2).box
  have hlt2 : w.heap.size < w2.heap.size := (HX.out.next b2).lt
  have HB2 := Lib.hid (HB.out.trans (b2.mono HB.out.size))
  have HX2 := Lib.hid (HX.out.next b2)
  have HCO2 := Lib.hid (HCO.out.next b2)
  have HSE2 := Lib.hid (HSE.out.next b2)
  clear b2 C1' x0 x1 x2 x3 x4 x5 HX HB HCO HSE hlt
  go_wp2_with fail
  with_reducible refine (NB I.size h64 _).mono ?_
  rintro e w3 ⟨rfl, b3⟩
  obtain ⟨z0, z1, z2, z3, z4, z5⟩ := (HX2.out.next b3).box
  have hlt3 : w.heap.size < w3.heap.size := (HX2.out.next b3).lt
  have HB3 := Lib.hid (HB2.out.trans (b3.mono HB2.out.size))
  have HX3 := Lib.hid (HX2.out.next b3)
  have HCO3 := Lib.hid (HCO2.out.next b3)
  have HSE3 := Lib.hid (HSE2.out.next b3)
  clear b3 y0 y1 y2 y3 y4 y5 HX2 HB2 HCO2 HSE2 hlt2
  obtain ⟨cs, hcs⟩ : ∃ q : ByteArray, q = ⟨(numT I.size).toArray⟩ := ⟨_, rfl⟩
  rw [← hcs]
  have hcl : cs.data.toList = numT I.size := by rw [hcs, ba_list]
  have hcz : cs.size ≤ 22 := by rw [hcs, ba_size]; exact hct
  have HCL := Lib.hid hcl
  clear hcs hcl
  go_wp2
  go_loopw [5, 15] (fun s i wr => ∃ (k : Nat) (acc : ByteArray), k ≤ I.sets.length ∧ s = .string acc ∧ i = .int .i64 (k : Nat) ∧ Hid (acc.data.toList ++ setsT (I.sets.drop k) = instT I) ∧ Hid (Below w3.heap.size w3 wr)) (fun _ i _ => I.sets.length - (intOf i).toNat)
  case atStart => exact ⟨0, _, by omega, rfl, rfl, (by show _ = _; rw [HEI.out, cat_list, cat_list, HCL.out]; simp [cW]), Below.refl _ _⟩
  case round =>
    obtain ⟨k, acc, hk, rfl, rfl, hQ, hR⟩ := hrel
    by_cases hlt : k < I.sets.length
    · obtain ⟨g, off, r, A', C', rfl, _, hgl, hx, d00, d0, _, hC', hM', hI⟩ := (HSE3.out.next hR.out).get hlt
      unfold maxLen at hM'
      have hq := hQ.out
      rw [setsT_drop hx] at hq
      have hrm := HSM.out r (List.mem_of_getElem? hx)
      have hr64 : ∀ n ∈ r.2, I64 n := fun n hn => by have := ris_in _ _ hrm.2 n hn; exact ⟨by omega, by omega⟩
      have hc64 : I64 r.1 := ⟨by omega, by omega⟩
      have hcl1 := numT_len hc64
      have hll := congrArg List.length hq
      simp only [List.length_append, List.length_cons] at hll
      have hw3 : setW.length = 3 := rfl
      have has := size_list acc
      have c01 : (0 : Int) ≤ (k : Int) := by omega
      have c02 : (k : Int) < (I.sets.length : Int) := by omega
      have HXR0 := Lib.hid (HX3.out.next hR.out)
      obtain ⟨z0, z1, z2, z3, z4, z5⟩ := HXR0.out.box
      have hlr := HXR0.out.lt
      have HQ0 := Lib.hid hq
      clear hQ hq hx hrm
      go_wp2_with fail
      with_reducible refine (NB r.1 hc64 _).mono ?_
      rintro e wO ⟨rfl, bO⟩
      obtain ⟨vc, hvc⟩ : ∃ q : ByteArray, q = ⟨(numT r.1).toArray⟩ := ⟨_, rfl⟩
      rw [← hvc]
      have hvcl : vc.data.toList = numT r.1 := by rw [hvc, ba_list]
      have hvcz : vc.size ≤ 22 := by rw [hvc, ba_size]; exact hcl1
      have HD0 := Lib.hid ((bO.cell (p := ⟨g, off + k * 2 + 1, none⟩) hgl).trans d0)
      have HIR := Lib.hid (hI.next bO)
      have HXR := Lib.hid (HXR0.out.next bO)
      have hRO := Lib.hid (hR.out.trans (bO.mono hR.out.size))
      have hgl := Nat.lt_of_lt_of_le hgl bO.size
      have HQ : Hid ((acc ++ ⟨#[115, 101, 116]⟩ ++ vc ++ ⟨#[58]⟩).data.toList ++ (numsT (r.2.drop 0) ++ (10 :: setsT (I.sets.drop (k + 1)))) = instT I) := by
        show _ = _
        rw [← HQ0.out, cat_list, cat_list, cat_list, hvcl]
        simp [setW]
      clear z0 z1 z2 z3 z4 z5 hlr HXR0 HQ0 hI bO d0 d00 hR hvc hvcl
      have hR := hRO
      clear hRO
      obtain ⟨z0, z1, z2, z3, z4, z5⟩ := HXR.out.box
      have hlr := HXR.out.lt
      go_wp2
      go_loopw [5, 17] (fun s j wr => ∃ (m : Nat) (bcc : ByteArray), m ≤ r.2.length ∧ s = .string bcc ∧ j = .int .i64 (m : Nat) ∧ Hid (bcc.data.toList ++ (numsT (r.2.drop m) ++ (10 :: setsT (I.sets.drop (k + 1)))) = instT I) ∧ Hid (Below wO.heap.size wO wr)) (fun _ j _ => r.2.length - (intOf j).toNat)
      case atStart => exact ⟨0, _, by omega, rfl, rfl, HQ.out, Below.refl _ _⟩
      case round =>
        obtain ⟨m, bcc, hm, rfl, rfl, hQ2, hR2⟩ := hrel
        have HXS := Lib.hid (HXR.out.next hR2.out)
        obtain ⟨z0, z1, z2, z3, z4, z5⟩ := HXS.out.box
        have hls := HXS.out.lt
        have hgs : g < wr.heap.size := Nat.lt_of_lt_of_le hgl hR2.out.size
        have d5 := (hR2.out.cell (p := ⟨g, off + k * 2 + 1, none⟩) hgl).trans HD0.out
        have hbs := size_list bcc
        by_cases hmt : m < r.2.length
        · obtain ⟨g2, o2, x, rfl, _, hg2, hxx, d1⟩ := (HIR.out.next hR2.out).get hmt
          have hq := hQ2.out
          rw [numsT_drop hxx] at hq
          have gx : I64 x := hr64 x (List.mem_of_getElem? hxx)
          have hl1 := numT_len gx
          have hll := congrArg List.length hq
          simp only [List.length_append, List.length_cons] at hll
          have e01 : (0 : Int) ≤ (m : Int) := by omega
          have e02 : (m : Int) < (r.2.length : Int) := by omega
          have HQ3 := Lib.hid hq
          clear hq hQ2 hxx
          go_wp2_with fail
          with_reducible refine (NB x gx _).mono ?_
          rintro e w5 ⟨rfl, b5⟩
          obtain ⟨v1, hv1⟩ : ∃ q : ByteArray, q = ⟨(numT x).toArray⟩ := ⟨_, rfl⟩
          rw [← hv1]
          have hvl1 : v1.data.toList = numT x := by rw [hv1, ba_list]
          have hvz1 : v1.size ≤ 22 := by rw [hv1, ba_size]; exact hl1
          have HR5 := Lib.hid (hR2.out.trans (b5.mono hR2.out.size))
          have HQ4 : Hid ((bcc ++ v1).data.toList ++ (numsT (r.2.drop (m + 1)) ++ (10 :: setsT (I.sets.drop (k + 1)))) = instT I) := by
            show _ = _
            rw [← HQ3.out, cat_list, hvl1]
            simp
          clear hv1 hvl1 b5 HXS z0 z1 z2 z3 z4 z5 d1 d5 hg2 hls hR2 HQ3
          go_wp2
          go_roundw
          case rel => exact ⟨m + 1, _, by omega, rfl, by go_num, HQ4, HR5⟩
          case measure => simp [intOf]; omega
        · obtain rfl : m = r.2.length := by omega
          have hq := hQ2.out
          rw [List.drop_eq_nil_of_le (Nat.le_refl _)] at hq
          have HQ5 : Hid ((bcc ++ ⟨#[10]⟩).data.toList ++ setsT (I.sets.drop (k + 1)) = instT I) := by
            show _ = _
            rw [← hq, cat_list]
            simp [numsT]
          have hll := congrArg List.length hq
          simp only [List.length_append, List.length_cons] at hll
          have HR5 := Lib.hid (hR.out.trans (hR2.out.mono hR.out.size))
          clear hq hQ2 hR2
          go_wp2
          go_roundw
          case rel => exact ⟨k + 1, _, by omega, rfl, by go_num, HQ5, HR5⟩
          case measure => simp [intOf]; omega
    · obtain rfl : k = I.sets.length := by omega
      have hq := hQ.out
      rw [List.drop_eq_nil_of_le (Nat.le_refl _)] at hq
      simp only [setsT, List.append_nil] at hq
      have HXR := Lib.hid (HX3.out.next hR.out)
      obtain ⟨z0, z1, z2, z3, z4, z5⟩ := HXR.out.box
      have hlr := HXR.out.lt
      have HBR := Lib.hid (HB3.out.trans (hR.out.mono HB3.out.size))
      have has := size_list acc
      rw [hq] at has
      have hqe : acc = ⟨(instT I).toArray⟩ := ba_same (by rw [ba_list]; exact hq)
      have HQ := Lib.hid hqe
      clear hq hQ hR hqe HX3 HCO3 HSE3 HB3 NB
      rcases HE.out with ⟨h1, h2, h3⟩ | ⟨h1, h2, h3⟩
      · have hsz : ¬ (1048576 : Int) < (acc.size : Int) := by omega
        have HAN := Lib.hid (And.intro h2 h3)
        clear h1 h2 h3 HE has HEI
        go_wp2
        go_ret2
        exact ⟨by rw [HAN.out.1, HAN.out.2, ← HQ.out]; rfl, HBR.out⟩
      · have hsz : (1048576 : Int) < (acc.size : Int) := by omega
        have HAN := Lib.hid (And.intro h2 h3)
        clear h1 h2 h3 HE has HEI
        go_wp2
        go_ret2
        exact ⟨by rw [HAN.out.1, HAN.out.2]; rfl, HBR.out⟩
end Go.Proofs.YtbadingdklenhaaGreatDoor

/-
  What the document's Print does with every instance (layer 11).
-/
namespace Go.Proofs.YtbadingdklenhaaGreatDoor
set_option maxRecDepth 100000
open Go.RowKit

set_option maxHeartbeats 1000000 in
theorem rprint_no (F G : Nat → Prop) (I : In) (v : Value) (w : World) (h : Ins F G w v I) (hc0 : ¬ I.chk = 0) :
    Calls Tryz.prog 10 #[v] w fun e w' => e = .returned (.tuple #[.string ⟨(prT I).toArray⟩, .int .i64 (prE I)]) ∧ Below w.heap.size w w' := by
  have CK := fun W a => rcheck_any F G I v W a
  have he : prE I = I.chk := by unfold prE; rw [if_neg hc0]
  have htx : prT I = [] := by unfold prT; rw [he, if_neg hc0]
  rw [he, htx]
  obtain ⟨vi, vc, vs, uc, us, rfl, hi, hc, hs⟩ := h.form
  obtain ⟨A0, C0, rfl, k0, m0⟩ := hi.form
  obtain ⟨A1, C1, rfl, k1, m1⟩ := hc.form
  obtain ⟨A2, C2, rfl, k2, m2⟩ := hs.form
  obtain ⟨W1, hW1⟩ : ∃ W, W = w.alloc (.cells #[.int .i64 I.kind, .int .i64 I.cap, .slice A0 I.items.length C0, .slice A1 I.cost.length C1, .int .i64 I.size, .slice A2 I.sets.length C2] 36) := ⟨_, rfl⟩
  have nb : Below w.heap.size w W1 := by rw [hW1]; exact new_below _ _
  have X1 : IBlk w.heap.size 36 (.int .i64 I.kind) (.int .i64 I.cap) (.slice A0 I.items.length C0) (.slice A1 I.cost.length C1) (.int .i64 I.size) (.slice A2 I.sets.length C2) W1 := by rw [hW1]; exact iblk_new w _ _ _ _ _ _ _
  have HB := Lib.hid nb
  have C1' := CK _ (h.next nb)
  obtain ⟨x0, x1, x2, x3, x4, x5⟩ := X1.box
  have hlt := X1.lt
  obtain ⟨E, hE⟩ : ∃ E, I.chk = E := ⟨_, rfl⟩
  rw [hE] at hc0 C1' ⊢
  clear h hi hc hs nb X1 CK he htx hE
  go_enter Tryz.func10, Tryz.ntmps10
  go_wp2_with fail
  rw [← hW1]
  clear hW1
  with_reducible refine C1'.mono ?_
  rintro e w2 ⟨rfl, b2⟩
  have HB2 := Lib.hid (HB.out.trans (b2.mono HB.out.size))
  clear b2 C1' x0 x1 x2 x3 x4 x5 HB hlt
  go_wp2
  go_ret2
  exact ⟨rfl, HB2.out⟩
theorem rprint_any (F G : Nat → Prop) (I : In) (v : Value) (w : World) (h : Ins F G w v I) :
    Calls Tryz.prog 10 #[v] w fun e w' => e = .returned (.tuple #[.string ⟨(prT I).toArray⟩, .int .i64 (prE I)]) ∧ Below w.heap.size w w' := by
  by_cases hc : I.chk = 0
  · have hm := (In.chk_may hc).kind
    rcases (show I.kind = 0 ∨ I.kind = 1 ∨ I.kind = 2 ∨ I.kind = 3 by omega) with hk | hk | hk | hk
    · exact rprint_knap F G I v w h hc hk
    · exact rprint_sq1 F G I v w h hc hk
    · exact rprint_sq2 F G I v w h hc hk
    · exact rprint_cv F G I v w h hc hk
  · exact rprint_no F G I v w h hc
end Go.Proofs.YtbadingdklenhaaGreatDoor
