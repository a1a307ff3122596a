/-
  What the document's Digits does (package secateurref02).
-/
import Derived.Test.YthfdpnmdcmpgbaaDoorRows
import Derived.Test.YthfdpnmdcmpgbaaDoorNumMath
import Derived.Test.YthfdpnmdcmpgbaaDoorSignMath
import Derived.Lib.ItoaLen
import Derived.WalkSpells
import Derived.WalkLawsBesides
import Derived.Deep.RegionHeld3
import Derived.Deep.RegionWith
import Derived.BigQuiet
namespace Go.Proofs.YthfdpnmdcmpgbaaDoor
set_option maxRecDepth 100000
open Go.RowKit

theorem kc (w : World) (v : Nat) :
    (convert 57 9 (.slice (some ⟨w.heap.size, 0, none⟩) 1 1)).run Tryd.prog (w.alloc (.cells #[.int .u8 (48 + (v : Int) % 10)] 5)) = .ok (.string ⟨#[UInt8.ofNat (48 + v % 10)]⟩) (w.alloc (.cells #[.int .u8 (48 + (v : Int) % 10)] 5)) := by
  refine run_convert_bytes_back (P := Tryd.prog) _ 57 9 5 ⟨w.heap.size, 0, none⟩ 1 [UInt8.ofNat (48 + v % 10)] Tryd.underlying57 Tryd.underlying5 Tryd.underlying9 (fun j hj => ?_)
  have hj0 : j = 0 := by simpa using hj
  subst hj0
  have e1 : ((UInt8.ofNat (48 + v % 10)).toNat : Int) = 48 + (v : Int) % 10 := by
    rw [UInt8.toNat_ofNat']; omega
  simp only [List.getElem_cons_zero, e1]
  rw [Addr.add_lit, World.cell?_alloc_at _ _ _ _ rfl]
  rfl

theorem kd (w : World) (v : Nat) (h : v < 10) :
    (convert 57 9 (.slice (some ⟨w.heap.size, 0, none⟩) 1 1)).run Tryd.prog (w.alloc (.cells #[.int .u8 (48 + (v : Int))] 5)) = .ok (.string ⟨#[UInt8.ofNat (48 + v)]⟩) (w.alloc (.cells #[.int .u8 (48 + (v : Int))] 5)) := by
  have e := kc w v
  rw [Nat.mod_eq_of_lt h, Int.emod_eq_of_lt (by omega) (by omega)] at e
  exact e

theorem app_list (b : UInt8) (A : ByteArray) : ((⟨#[b]⟩ : ByteArray) ++ A).data.toList = b :: A.data.toList := by
  rw [ByteArray.data_append]; simp

theorem digits_pos (n : Int) (hn : I64 n) (h0 : 0 ≤ n) (w : World) :
    Calls Tryd.prog 22 #[.int .i64 n] w fun e w' => e = .returned (.string ⟨(Lib.itoa n).toArray⟩) ∧ Below w.heap.size w w' := by
  obtain ⟨n0, n1⟩ := hn
  have u1 : IntKind.u64.wrap n = n := by rw [IntKind.wrap_u64]; omega
  go_enter Tryd.func22, Tryd.ntmps22
  obtain ⟨N, rfl⟩ := Int.eq_ofNat_of_zero_le h0
  have nn : ¬ ((N : Int) < 0) := by omega
  have hlen : (Lib.decDigits N).length ≤ 21 := by
    have := Lib.itoa_length_le (N : Int) n0 n1
    unfold Lib.itoa at this
    rw [if_neg nn] at this
    simpa using this
  have HL := Lib.hid hlen
  clear hlen
  go_wp2
  go_loopw [3, 4] (fun u s wr => ∃ (v : Nat) (A : ByteArray), v ≤ 9223372036854775807 ∧ A.size ≤ 21 ∧ u = .int .u64 v ∧ s = .string A ∧ Hid (Lib.decDigits v ++ A.data.toList = Lib.decDigits N) ∧ Below w.heap.size w wr) (fun u _ _ => (intOf u).toNat)
  case atStart => exact ⟨N, ⟨#[]⟩, by omega, by decide, rfl, rfl, by show _ = _; simp, Below.refl _ _⟩
  case round =>
    obtain ⟨v, A, hv, hA, rfl, rfl, hE, hB⟩ := hrel
    have HB := Lib.hid hB
    clear hB
    by_cases hlt : v < 10
    · have h9 : ¬ ((9 : Int) < (v : Int)) := by omega
      have kd0 := kd wr v hlt
      go_wp2
      have e8 : (48 + UInt8.ofNat v) = UInt8.ofNat (48 + v) := by
        rw [UInt8.ofNat_add]; rfl
      have hE' : ((⟨#[48 + UInt8.ofNat v]⟩ : ByteArray) ++ A) = ⟨(Lib.itoa (N : Int)).toArray⟩ := by
        have hE1 : Lib.decDigits v ++ A.data.toList = Lib.decDigits N := hE
        rw [dec_lt hlt] at hE1
        have e2 := app_list (48 + UInt8.ofNat v) A
        rw [e8] at e2 ⊢
        apply ByteArray.ext
        apply Array.toList_inj.1
        rw [e2]
        unfold Lib.itoa
        rw [if_neg (by omega)]
        simpa using hE1
      have HB' : Below w.heap.size w wr := HB
      have sz := HB'.size
      go_ret
      exact ⟨by rw [hE']; rfl, HB'.alloc sz _⟩
    · have h9 : (9 : Int) < (v : Int) := by omega
      have kc0 := kc wr v
      go_wp2
      have e8 : (48 + UInt8.ofNat (v % 10)) = UInt8.ofNat (48 + v % 10) := by
        rw [UInt8.ofNat_add]; rfl
      have hE' : Lib.decDigits (v / 10) ++ ((⟨#[48 + UInt8.ofNat (v % 10)]⟩ : ByteArray) ++ A).data.toList = Lib.decDigits N := by
        rw [app_list, e8]
        have hE1 : Lib.decDigits v ++ A.data.toList = Lib.decDigits N := hE
        rw [dec_step hlt] at hE1
        simpa using hE1
      have HB' : Below w.heap.size w wr := HB
      have sz := HB'.size
      refine ⟨⟨v / 10, _, by omega, ?_, by simp, rfl, hE', HB'.alloc sz _⟩, ?_⟩
      · have hl := congrArg List.length hE'
        have HL' : (Lib.decDigits N).length ≤ 21 := HL
        rw [List.length_append] at hl
        have hz : ∀ B : ByteArray, B.size = B.data.toList.length := fun B => by rw [Array.length_toList]; rfl
        rw [hz]
        omega
      · simp only [intOf]
        omega
theorem itoa_neg (N : Nat) (h : -(N : Int) < 0) : (⟨#[45]⟩ : ByteArray) ++ ⟨(Lib.itoa (N : Int)).toArray⟩ = ⟨(Lib.itoa (-(N : Int))).toArray⟩ := by
  apply ByteArray.ext
  apply Array.toList_inj.1
  rw [app_list]
  unfold Lib.itoa
  rw [if_pos h, if_neg (by omega)]
  simp

theorem digits_neg (n : Int) (hn : I64 n) (h0 : n < 0) (w : World) :
    Calls Tryd.prog 22 #[.int .i64 n] w fun e w' => e = .returned (.string ⟨(Lib.itoa n).toArray⟩) ∧ Below w.heap.size w w' := by
  obtain ⟨n0, n1⟩ := hn
  obtain ⟨N, rfl⟩ : ∃ N : Nat, n = -(N : Int) := ⟨(-n).toNat, by omega⟩
  have u1 : IntKind.u64.wrap (-(N : Int)) = 18446744073709551616 - (N : Int) := by rw [IntKind.wrap_u64]; omega
  have u2 : IntKind.u64.wrap (-(18446744073709551616 - (N : Int))) = (N : Int) := by rw [IntKind.wrap_u64]; omega
  go_enter Tryd.func22, Tryd.ntmps22
  have nn : -(N : Int) < 0 := h0
  have hlen : (Lib.decDigits N).length + 1 ≤ 21 := by
    have := Lib.itoa_length_le (-(N : Int)) n0 n1
    unfold Lib.itoa at this
    rw [if_pos nn] at this
    simpa using this
  have HL := Lib.hid hlen
  clear hlen
  go_wp2
  go_loopw [3, 4] (fun u s wr => ∃ (v : Nat) (A : ByteArray), v ≤ 9223372036854775808 ∧ A.size ≤ 21 ∧ u = .int .u64 v ∧ s = .string A ∧ Hid (Lib.decDigits v ++ A.data.toList = Lib.decDigits N) ∧ Below w.heap.size w wr) (fun u _ _ => (intOf u).toNat)
  case atStart => exact ⟨N, ⟨#[]⟩, by omega, by decide, by congr 1; omega, rfl, by show _ = _; simp, Below.refl _ _⟩
  case round =>
    obtain ⟨v, A, hv, hA, rfl, rfl, hE, hB⟩ := hrel
    have HB := Lib.hid hB
    clear hB
    by_cases hlt : v < 10
    · have h9 : ¬ ((9 : Int) < (v : Int)) := by omega
      have kd0 := kd wr v hlt
      go_wp2
      have e8 : (48 + UInt8.ofNat v) = UInt8.ofNat (48 + v) := by
        rw [UInt8.ofNat_add]; rfl
      have hE' : ((⟨#[48 + UInt8.ofNat v]⟩ : ByteArray) ++ A) = ⟨(Lib.itoa (N : Int)).toArray⟩ := by
        have hE1 : Lib.decDigits v ++ A.data.toList = Lib.decDigits N := hE
        rw [dec_lt hlt] at hE1
        have e2 := app_list (48 + UInt8.ofNat v) A
        rw [e8] at e2 ⊢
        apply ByteArray.ext
        apply Array.toList_inj.1
        rw [e2]
        unfold Lib.itoa
        rw [if_neg (by omega)]
        simpa using hE1
      have HB' : Below w.heap.size w wr := HB
      have sz := HB'.size
      go_ret
      exact ⟨by rw [hE']; exact congrArg (fun b => Ending.returned (Value.string b)) (itoa_neg N h0), HB'.alloc sz _⟩
    · have h9 : (9 : Int) < (v : Int) := by omega
      have kc0 := kc wr v
      go_wp2
      have e8 : (48 + UInt8.ofNat (v % 10)) = UInt8.ofNat (48 + v % 10) := by
        rw [UInt8.ofNat_add]; rfl
      have hE' : Lib.decDigits (v / 10) ++ ((⟨#[48 + UInt8.ofNat (v % 10)]⟩ : ByteArray) ++ A).data.toList = Lib.decDigits N := by
        rw [app_list, e8]
        have hE1 : Lib.decDigits v ++ A.data.toList = Lib.decDigits N := hE
        rw [dec_step hlt] at hE1
        simpa using hE1
      have HB' : Below w.heap.size w wr := HB
      have sz := HB'.size
      refine ⟨⟨v / 10, _, by omega, ?_, by simp, rfl, hE', HB'.alloc sz _⟩, ?_⟩
      · have hl := congrArg List.length hE'
        have HL' : (Lib.decDigits N).length + 1 ≤ 21 := HL
        rw [List.length_append] at hl
        have hz : ∀ B : ByteArray, B.size = B.data.toList.length := fun B => by rw [Array.length_toList]; rfl
        rw [hz]
        omega
      · simp only [intOf]
        omega
theorem digits_any (n : Int) (hn : I64 n) (w : World) :
    Calls Tryd.prog 22 #[.int .i64 n] w fun e w' => e = .returned (.string ⟨(Lib.itoa n).toArray⟩) ∧ Below w.heap.size w w' := by
  by_cases h : 0 ≤ n
  · exact digits_pos n hn h w
  · exact digits_neg n hn (by omega) w
end Go.Proofs.YthfdpnmdcmpgbaaDoor
