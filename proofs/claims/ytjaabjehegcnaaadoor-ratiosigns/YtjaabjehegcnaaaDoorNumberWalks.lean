/-
  What the document's Number does (package secateurref02).
-/
import Derived.Test.YtjaabjehegcnaaaDoorDigitWalks
import Derived.Test.YtjaabjehegcnaaaDoorSignMath2
import Derived.Lib.Strings
namespace Go.Proofs.YtjaabjehegcnaaaDoor
set_option maxRecDepth 100000
open Go.RowKit

def numV (l : List UInt8) : Value := .tuple #[.int .i64 (nmN l), .bool (nmB l)]
theorem drop_at {A : ByteArray} {k : Nat} {b : UInt8} (hk : k < A.size) (hb : A[k] = b) : A.data.toList.drop k = b :: A.data.toList.drop (k + 1) := by
  have hl : A.data.toList.length = A.size := by rw [Array.length_toList]; rfl
  rw [List.drop_eq_getElem_cons (by omega)]
  congr 1
theorem same_text (n : Int) (A : ByteArray) : ((⟨(Lib.itoa n).toArray⟩ : ByteArray).toList == A.toList) = decide (Lib.itoa n = A.data.toList) := by
  rw [Lib.toList_data, Lib.toList_data]
  show (Lib.itoa n == A.data.toList) = _
  by_cases h : Lib.itoa n = A.data.toList <;> simp [h]
theorem low_quo (d : Nat) (h : d ≤ 9) : (-9223372036854775808 + (d : Int)).tdiv 10 = -((9223372036854775808 - (d : Int)) / 10) := by
  rw [show (-9223372036854775808 + (d : Int)) = -(9223372036854775808 - (d : Int)) by omega, Int.neg_tdiv, Int.tdiv_eq_ediv_of_nonneg (by omega)]
theorem high_quo (d : Nat) (h : d ≤ 9) : (9223372036854775807 - (d : Int)).tdiv 10 = (9223372036854775807 - (d : Int)) / 10 := Int.tdiv_eq_ediv_of_nonneg (by omega)
theorem num_none {A : ByteArray} (h : nread A.data.toList = none) : Ending.returned (.tuple #[.int .i64 0, .bool false]) = Ending.returned (numV A.data.toList) := by
  obtain ⟨h1, h2⟩ := nm_none h
  unfold numV; rw [h1, h2]
theorem num_some {A : ByteArray} {n : Int} {b : Bool} (h : nread A.data.toList = some n) (hb : b = decide (Lib.itoa n = A.data.toList)) : Ending.returned (.tuple #[.int .i64 n, .bool b]) = Ending.returned (numV A.data.toList) := by
  obtain ⟨h1, h2⟩ := nm_some h
  unfold numV; rw [h1, h2, hb]

set_option maxHeartbeats 4000000 in
theorem number_neg (A : ByteArray) (hA : A.size ≤ 281474976710656) (h0 : 0 < A.size) (hb0 : A[0] = 45) (hN : negB A.data.toList = true) (w : World) :
    Calls Tryd.prog 57 #[.string A] w fun e w' => e = .returned (numV A.data.toList) ∧ Below w.heap.size w w' := by
  have hl : A.data.toList.length = A.size := by rw [Array.length_toList]; rfl
  have DG := fun n hn W => digits_any n hn W
  have HN := Lib.hid hN
  have HL := Lib.hid hl
  clear hN hl
  have h0' : (0 : Int) < (A.size : Int) := by omega
  go_enter Tryd.func57, Tryd.ntmps57
  go_wp2
  go_loopw [5, 6] (fun nn i wr => ∃ (k : Nat) (n : Int), k ≤ A.size ∧ i = .int .i64 k ∧ nn = .int .i64 n ∧ In64 n ∧ n ≤ 0 ∧ Hid ((k = 0 ∧ n = 0) ∨ (0 < k ∧ nread A.data.toList = nstep true (A.data.toList.drop k) n)) ∧ wr = w) (fun _ i _ => A.size - (intOf i).toNat)
  case atStart => exact ⟨0, 0, by omega, rfl, rfl, ⟨by decide, by decide⟩, by omega, .inl ⟨rfl, rfl⟩, rfl⟩
  case round =>
    obtain ⟨k, n, hk, rfl, rfl, hn, hs, hQ, rfl⟩ := hrel
    by_cases hlt : k < A.size
    · by_cases hk0 : k = 0
      · subst hk0
        have hn0 : n = 0 := by rcases hQ with ⟨_, h⟩ | ⟨h, _⟩; exact h; omega
        subst hn0
        have hE : Hid (nread A.data.toList = nstep true (A.data.toList.drop 1) 0) := by show _ = _; unfold nread nrest; rw [HN.out]; simp
        clear hQ
        go_wp2
        go_roundw
        case rel => exact ⟨1, 0, by omega, by go_num, rfl, ⟨by decide, by decide⟩, by omega, .inr ⟨by omega, hE.out⟩, trivial⟩
        case measure => simp [intOf]; omega
      · have hk0' : ((k : Int) == 0) = false := by simp; omega
        have hE : nread A.data.toList = nstep true (A.data.toList.drop k) n := by rcases hQ with ⟨h, _⟩ | ⟨_, h⟩; exact absurd h hk0; exact h
        obtain ⟨b, hb⟩ : ∃ b, A[k] = b := ⟨_, rfl⟩
        rw [drop_at hlt hb, nstep] at hE
        have hb8 := b.toNat_lt
        obtain ⟨n0, n1⟩ := hn
        by_cases hd : 48 ≤ b.toNat ∧ b.toNat ≤ 57
        · rw [if_pos hd] at hE
          obtain ⟨d1, d2⟩ := hd
          obtain ⟨d, hde⟩ : ∃ d, b.toNat - 48 = d := ⟨_, rfl⟩
          have hd9 : d ≤ 9 := by omega
          rw [hde, show more true n d = 10 * n - d by unfold more; rw [if_pos rfl]] at hE
          have h8 : IntKind.u8.wrap ((b.toNat : Int) - 48) = (d : Int) := by rw [show ((b.toNat : Int) - 48) = (d : Int) by omega]; simp [IntKind.wrap, IntKind.signed, IntKind.bits]; omega
          have hlo : ¬ ((b.toNat : Int) < 48) := by omega
          have hhi : ¬ ((57 : Int) < (b.toNat : Int)) := by omega
          have hq0 := low_quo d hd9
          by_cases hi : In64 (10 * n - d)
          · rw [if_pos hi] at hE
            obtain ⟨i0, i1⟩ := hi
            have HE := Lib.hid hE
            have hcmp : (-9223372036854775808 + (d : Int)).tdiv 10 ≤ n := by rw [hq0]; omega
            
            clear hE hQ hq0
            go_wp2
            go_roundw
            case rel => exact ⟨k + 1, 10 * n - d, by omega, by go_num, by go_num, ⟨i0, i1⟩, by omega, .inr ⟨by omega, HE.out⟩, trivial⟩
            case measure => simp [intOf]; omega
          · rw [if_neg hi] at hE
            have HE := Lib.hid hE
            have hcmp : n < (-9223372036854775808 + (d : Int)).tdiv 10 := by rw [hq0]; unfold In64 at hi; omega
            
            clear hE hQ hi hq0
            go_wp2
            go_ret2
            exact ⟨num_none HE.out, Below.refl _ _⟩
        · rw [if_neg hd] at hE
          have HE := Lib.hid hE
          clear hE hQ
          by_cases hlo : b.toNat < 48
          · have hlo' : (b.toNat : Int) < 48 := by omega
            clear hd
            go_wp2
            go_ret2
            exact ⟨num_none HE.out, Below.refl _ _⟩
          · have hlo' : ¬ ((b.toNat : Int) < 48) := by omega
            have hhi : (57 : Int) < (b.toNat : Int) := by omega
            clear hd
            go_wp2
            go_ret2
            exact ⟨num_none HE.out, Below.refl _ _⟩
    · obtain rfl : k = A.size := by omega
      have hE : nread A.data.toList = some n := by
        rcases hQ with ⟨h1, h2⟩ | ⟨_, h⟩
        · omega
        · rw [h, List.drop_of_length_le (by have := HL.out; omega)]; rfl
      have HE := Lib.hid hE
      have D := DG n hn wr
      have hsame := same_text n A
      generalize hX : (⟨(Lib.itoa n).toArray⟩ : ByteArray) = X at *
      generalize hD : decide (Lib.itoa n = A.data.toList) = dd at *
      have HD := Lib.hid hD
      clear hQ hE hX hD DG
      go_wp2_with fail
      with_reducible refine D.mono ?_
      rintro e w1 ⟨rfl, b1⟩
      go_wp2
      go_ret2
      exact ⟨num_some HE.out HD.out.symm, b1⟩

set_option maxHeartbeats 4000000 in
theorem number_pos (A : ByteArray) (hA : A.size ≤ 281474976710656) (h0 : A.size = 0 ∨ ∃ (h : 0 < A.size) (b : UInt8), A[0] = b ∧ b.toNat ≠ 45) (hN : negB A.data.toList = false) (w : World) :
    Calls Tryd.prog 57 #[.string A] w fun e w' => e = .returned (numV A.data.toList) ∧ Below w.heap.size w w' := by
  have hl : A.data.toList.length = A.size := by rw [Array.length_toList]; rfl
  have DG := fun n hn W => digits_any n hn W
  have HN := Lib.hid hN
  have HL := Lib.hid hl
  clear hN hl
  rcases h0 with h0 | ⟨h0, b0, hb0, hb45⟩
  · have h0' : ¬ ((0 : Int) < (A.size : Int)) := by omega
    go_enter Tryd.func57, Tryd.ntmps57
    go_wp2
    go_loopw [5, 6] (fun nn i wr => ∃ (k : Nat) (n : Int), k ≤ A.size ∧ i = .int .i64 k ∧ nn = .int .i64 n ∧ In64 n ∧ 0 ≤ n ∧ Hid ((k = 0 ∧ n = 0) ∨ (0 < k ∧ nread A.data.toList = nstep false (A.data.toList.drop k) n)) ∧ wr = w) (fun _ i _ => A.size - (intOf i).toNat)
    case atStart => exact ⟨0, 0, by omega, rfl, rfl, ⟨by decide, by decide⟩, by omega, .inl ⟨rfl, rfl⟩, rfl⟩
    case round =>
      obtain ⟨k, n, hk, rfl, rfl, hn, hs, hQ, rfl⟩ := hrel
      by_cases hlt : k < A.size
      · omega
      · obtain rfl : k = A.size := by omega
        have hE : nread A.data.toList = some n := by
          rcases hQ with ⟨h1, h2⟩ | ⟨_, h⟩
          · subst h2; unfold nread nrest; rw [HN.out]; have e0 : A.data.toList = [] := List.eq_nil_of_length_eq_zero (by have := HL.out; omega); rw [e0]; rfl
          · rw [h, List.drop_of_length_le (by have := HL.out; omega)]; rfl
        have HE := Lib.hid hE
        have D := DG n hn wr
        have hsame := same_text n A
        generalize hX : (⟨(Lib.itoa n).toArray⟩ : ByteArray) = X at *
        generalize hD : decide (Lib.itoa n = A.data.toList) = dd at *
        have HD := Lib.hid hD
        clear hQ hE hX hD DG
        go_wp2_with fail
        with_reducible refine D.mono ?_
        rintro e w1 ⟨rfl, b1⟩
        go_wp2
        go_ret2
        exact ⟨num_some HE.out HD.out.symm, b1⟩
  · have h0' : (0 : Int) < (A.size : Int) := by omega
    have h45 : ((b0.toNat : Int) == 45) = false := by simp; omega
    go_enter Tryd.func57, Tryd.ntmps57
    go_wp2
    go_loopw [5, 6] (fun nn i wr => ∃ (k : Nat) (n : Int), k ≤ A.size ∧ i = .int .i64 k ∧ nn = .int .i64 n ∧ In64 n ∧ 0 ≤ n ∧ Hid ((k = 0 ∧ n = 0) ∨ (0 < k ∧ nread A.data.toList = nstep false (A.data.toList.drop k) n)) ∧ wr = w) (fun _ i _ => A.size - (intOf i).toNat)
    case atStart => exact ⟨0, 0, by omega, rfl, rfl, ⟨by decide, by decide⟩, by omega, .inl ⟨rfl, rfl⟩, rfl⟩
    case round =>
      obtain ⟨k, n, hk, rfl, rfl, hn, hs, hQ, rfl⟩ := hrel
      clear hb0 h45 hb45
      by_cases hlt : k < A.size
      · by_cases hk0 : k = 0
        · subst hk0
          have hn0 : n = 0 := by rcases hQ with ⟨_, h⟩ | ⟨h, _⟩; exact h; omega
          subst hn0
          have hE : nread A.data.toList = nstep false (A.data.toList.drop 0) 0 := by unfold nread nrest; rw [HN.out]; simp
          clear hQ
          obtain ⟨b, hb⟩ : ∃ b, A[0] = b := ⟨_, rfl⟩
          rw [drop_at hlt hb, nstep] at hE
          have hb8 := b.toNat_lt
          by_cases hd : 48 ≤ b.toNat ∧ b.toNat ≤ 57
          · rw [if_pos hd] at hE
            obtain ⟨d1, d2⟩ := hd
            obtain ⟨d, hde⟩ : ∃ d, b.toNat - 48 = d := ⟨_, rfl⟩
            have hd9 : d ≤ 9 := by omega
            rw [hde, show more false 0 d = (d : Int) by unfold more; simp, if_pos ⟨by omega, by omega⟩] at hE
            have h8 : IntKind.u8.wrap ((b.toNat : Int) - 48) = (d : Int) := by rw [show ((b.toNat : Int) - 48) = (d : Int) by omega]; simp [IntKind.wrap, IntKind.signed, IntKind.bits]; omega
            have hlo : ¬ ((b.toNat : Int) < 48) := by omega
            have hhi : ¬ ((57 : Int) < (b.toNat : Int)) := by omega
            have hq0 := high_quo d hd9
            have HE := Lib.hid hE
            have hcmp : (0 : Int) ≤ (9223372036854775807 - (d : Int)).tdiv 10 := by rw [hq0]; omega
            have hcmp2 : (0 : Int) ≤ (9223372036854775807 - (d : Int)) / 10 := by omega
            clear hE hq0
            go_wp2
            go_roundw
            case rel => exact ⟨1, d, by omega, by go_num, by go_num, ⟨by omega, by omega⟩, by omega, .inr ⟨by omega, HE.out⟩, trivial⟩
            case measure => simp [intOf]; omega
          · rw [if_neg hd] at hE
            have HE := Lib.hid hE
            clear hE
            by_cases hlo : b.toNat < 48
            · have hlo' : (b.toNat : Int) < 48 := by omega
              clear hd
              go_wp2
              go_ret2
              exact ⟨num_none HE.out, Below.refl _ _⟩
            · have hlo' : ¬ ((b.toNat : Int) < 48) := by omega
              have hhi : (57 : Int) < (b.toNat : Int) := by omega
              clear hd
              go_wp2
              go_ret2
              exact ⟨num_none HE.out, Below.refl _ _⟩
        · have hk0' : ((k : Int) == 0) = false := by simp; omega
          have hE : nread A.data.toList = nstep false (A.data.toList.drop k) n := by rcases hQ with ⟨h, _⟩ | ⟨_, h⟩; exact absurd h hk0; exact h
          obtain ⟨b, hb⟩ : ∃ b, A[k] = b := ⟨_, rfl⟩
          rw [drop_at hlt hb, nstep] at hE
          have hb8 := b.toNat_lt
          obtain ⟨n0, n1⟩ := hn
          by_cases hd : 48 ≤ b.toNat ∧ b.toNat ≤ 57
          · rw [if_pos hd] at hE
            obtain ⟨d1, d2⟩ := hd
            obtain ⟨d, hde⟩ : ∃ d, b.toNat - 48 = d := ⟨_, rfl⟩
            have hd9 : d ≤ 9 := by omega
            rw [hde, show more false n d = 10 * n + d by unfold more; rw [if_neg (by decide)]] at hE
            have h8 : IntKind.u8.wrap ((b.toNat : Int) - 48) = (d : Int) := by rw [show ((b.toNat : Int) - 48) = (d : Int) by omega]; simp [IntKind.wrap, IntKind.signed, IntKind.bits]; omega
            have hlo : ¬ ((b.toNat : Int) < 48) := by omega
            have hhi : ¬ ((57 : Int) < (b.toNat : Int)) := by omega
            have hq0 := high_quo d hd9
            by_cases hi : In64 (10 * n + d)
            · rw [if_pos hi] at hE
              obtain ⟨i0, i1⟩ := hi
              have HE := Lib.hid hE
              have hcmp : n ≤ (9223372036854775807 - (d : Int)).tdiv 10 := by rw [hq0]; omega
              have hcmp2 : n ≤ (9223372036854775807 - (d : Int)) / 10 := by omega
              clear hE hQ hq0
              go_wp2
              go_roundw
              case rel => exact ⟨k + 1, 10 * n + d, by omega, by go_num, by go_num, ⟨i0, i1⟩, by omega, .inr ⟨by omega, HE.out⟩, trivial⟩
              case measure => simp [intOf]; omega
            · rw [if_neg hi] at hE
              have HE := Lib.hid hE
              have hcmp : (9223372036854775807 - (d : Int)).tdiv 10 < n := by rw [hq0]; unfold In64 at hi; omega
              have hcmp2 : (9223372036854775807 - (d : Int)) / 10 < n := by unfold In64 at hi; omega
              clear hE hQ hi hq0
              go_wp2
              go_ret2
              exact ⟨num_none HE.out, Below.refl _ _⟩
          · rw [if_neg hd] at hE
            have HE := Lib.hid hE
            clear hE hQ
            by_cases hlo : b.toNat < 48
            · have hlo' : (b.toNat : Int) < 48 := by omega
              clear hd
              go_wp2
              go_ret2
              exact ⟨num_none HE.out, Below.refl _ _⟩
            · have hlo' : ¬ ((b.toNat : Int) < 48) := by omega
              have hhi : (57 : Int) < (b.toNat : Int) := by omega
              clear hd
              go_wp2
              go_ret2
              exact ⟨num_none HE.out, Below.refl _ _⟩
      · obtain rfl : k = A.size := by omega
        have hE : nread A.data.toList = some n := by
          rcases hQ with ⟨h1, h2⟩ | ⟨_, h⟩
          · subst h2; unfold nread nrest; rw [HN.out]; have e0 : A.data.toList = [] := List.eq_nil_of_length_eq_zero (by have := HL.out; omega); rw [e0]; rfl
          · rw [h, List.drop_of_length_le (by have := HL.out; omega)]; rfl
        have HE := Lib.hid hE
        have D := DG n hn wr
        have hsame := same_text n A
        generalize hX : (⟨(Lib.itoa n).toArray⟩ : ByteArray) = X at *
        generalize hD : decide (Lib.itoa n = A.data.toList) = dd at *
        have HD := Lib.hid hD
        clear hQ hE hX hD DG
        go_wp2_with fail
        with_reducible refine D.mono ?_
        rintro e w1 ⟨rfl, b1⟩
        go_wp2
        go_ret2
        exact ⟨num_some HE.out HD.out.symm, b1⟩

theorem number_any (A : ByteArray) (hA : A.size ≤ 281474976710656) (w : World) :
    Calls Tryd.prog 57 #[.string A] w fun e w' => e = .returned (numV A.data.toList) ∧ Below w.heap.size w w' := by
  have hl : A.data.toList.length = A.size := by rw [Array.length_toList]; rfl
  by_cases h0 : 0 < A.size
  · have hd := drop_at h0 (b := A[0]) rfl
    rw [List.drop_zero] at hd
    by_cases hb : A[0] = 45
    · refine number_neg A hA h0 hb ?_ w
      unfold negB; rw [hd, hb]; rfl
    · have hb' : (A[0]).toNat ≠ 45 := fun h => hb (UInt8.toNat_inj.1 h)
      refine number_pos A hA (.inr ⟨h0, _, rfl, hb'⟩) ?_ w
      unfold negB; rw [hd]; simpa using hb'
  · refine number_pos A hA (.inl (by omega)) ?_ w
    have e0 : A.data.toList = [] := List.eq_nil_of_length_eq_zero (by omega)
    unfold negB; rw [e0]; rfl
end Go.Proofs.YtjaabjehegcnaaaDoor
