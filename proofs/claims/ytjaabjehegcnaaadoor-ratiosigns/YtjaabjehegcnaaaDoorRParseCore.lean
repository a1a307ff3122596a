/-
  What the document's Parse does (package secateurref02), of what Number and Text do at its pieces.
-/
import Derived.Test.YtjaabjehegcnaaaDoorNumberWalks
namespace Go.Proofs.YtjaabjehegcnaaaDoor
set_option maxRecDepth 100000
open Go.RowKit

def rpV (n d : Int) (b : Bool) : Value := if b = true then .tuple #[.int .i64 n, .int .i64 d, .int .i64 0] else .tuple #[.int .i64 0, .int .i64 0, .int .i64 4]
def NumIs (X : ByteArray) (n : Int) (e : Bool) : Prop := ∀ w : World, Calls Tryd.prog 57 #[.string X] w fun r w' => r = .returned (.tuple #[.int .i64 n, .bool e]) ∧ Below w.heap.size w w'
def TextIs (n d : Int) (T : ByteArray) : Prop := ∀ w : World, Calls Tryd.prog 27 #[.int .i64 n, .int .i64 d] w fun r w' => r = .returned (.string T) ∧ Below w.heap.size w w'
theorem on' {w w1 w2 : World} (h1 : Below w.heap.size w w1) (h2 : Below w1.heap.size w1 w2) : Below w.heap.size w w2 := h1.trans (h2.mono h1.size)

set_option maxHeartbeats 4000000 in
theorem rparse_miss (s : ByteArray) (hs : s.size ≤ 281474976710656) (hno : ∀ k (h : k < s.size), (s[k]).toNat ≠ 47) (n d : Int) (e f : Bool) (T : ByteArray) (PX : NumIs s n e) (PY : NumIs (⟨#[49]⟩ : ByteArray) d f) (TT : TextIs n d T) (w : World) :
    Calls Tryd.prog 30 #[.string s] w fun r w' => r = .returned (rpV n d (e && f && (T.toList == s.toList))) ∧ Below w.heap.size w w' := by
  obtain ⟨c, hc⟩ : ∃ c, (T.toList == s.toList) = c := ⟨_, rfl⟩
  rw [hc]
  unfold NumIs at PX PY
  unfold TextIs at TT
  have HNO := Lib.hid hno
  clear hno
  go_enter Tryd.func30, Tryd.ntmps30
  go_wp2
  go_loopw [5, 6, 7] (fun a b j wr => ∃ k : Nat, k ≤ s.size ∧ a = .string s ∧ b = .string ⟨#[49]⟩ ∧ j = .int .i64 k ∧ wr = w) (fun _ _ j _ => s.size - (intOf j).toNat)
  case atStart => exact ⟨0, by omega, rfl, rfl, rfl, rfl⟩
  case round =>
    obtain ⟨k, hk, rfl, rfl, rfl, rfl⟩ := hrel
    by_cases hlt : k < s.size
    · obtain ⟨b, hb⟩ : ∃ b, s[k] = b := ⟨_, rfl⟩
      have hb47 : ((b.toNat : Int) == 47) = false := by have := HNO.out k (by omega); rw [hb] at this; simp; omega
      go_wp2
      go_roundw
      case rel => exact ⟨k + 1, by omega, rfl, rfl, by go_num, trivial⟩
      case measure => simp [intOf]; omega
    · obtain rfl : k = s.size := by omega
      go_wp2_with fail
      with_reducible refine (PX _).mono ?_
      rintro r w1 ⟨rfl, b1⟩
      go_wp2_with fail
      with_reducible refine (PY _).mono ?_
      rintro r w2 ⟨rfl, b2⟩
      have B2 := on' b1 b2
      clear b1 b2
      go_wp2_with fail
      with_reducible refine (TT _).mono ?_
      rintro r w3 ⟨rfl, b3⟩
      have B3 := on' B2 b3
      clear B2 b3 PX PY TT
      cases e with
      | false => go_wp2; go_ret3; exact ⟨rfl, B3⟩
      | true =>
        cases f with
        | false => go_wp2; go_ret3; exact ⟨rfl, B3⟩
        | true =>
          cases c with
          | false => go_wp2; go_ret3; exact ⟨rfl, B3⟩
          | true => go_wp2; go_ret3; exact ⟨rfl, B3⟩

set_option maxHeartbeats 4000000 in
theorem rparse_hit (s : ByteArray) (hs : s.size ≤ 281474976710656) (i : Nat) (hi : i < s.size) (hat : s[i] = 47) (hno : ∀ k (h : k < s.size), k < i → (s[k]).toNat ≠ 47) (X Y : ByteArray) (hX : s.extract 0 i = X) (hY : s.extract (i + 1) s.size = Y) (n d : Int) (e f : Bool) (T : ByteArray) (PX : NumIs X n e) (PY : NumIs Y d f) (TT : TextIs n d T) (w : World) :
    Calls Tryd.prog 30 #[.string s] w fun r w' => r = .returned (rpV n d (e && f && (T.toList == s.toList))) ∧ Below w.heap.size w w' := by
  obtain ⟨c, hc⟩ : ∃ c, (T.toList == s.toList) = c := ⟨_, rfl⟩
  rw [hc]
  unfold NumIs at PX PY
  unfold TextIs at TT
  have HNO := Lib.hid hno
  clear hno
  go_enter Tryd.func30, Tryd.ntmps30
  go_wp2
  go_loopw [5, 6, 7] (fun a b j wr => ∃ k : Nat, k ≤ i ∧ a = .string s ∧ b = .string ⟨#[49]⟩ ∧ j = .int .i64 k ∧ wr = w) (fun _ _ j _ => s.size - (intOf j).toNat)
  case atStart => exact ⟨0, by omega, rfl, rfl, rfl, rfl⟩
  case round =>
    obtain ⟨k, hk, rfl, rfl, rfl, rfl⟩ := hrel
    by_cases hlt : k < i
    · obtain ⟨b, hb⟩ : ∃ b, s[k] = b := ⟨_, rfl⟩
      have hb47 : ((b.toNat : Int) == 47) = false := by have := HNO.out k (by omega) hlt; rw [hb] at this; simp; omega
      have hlt' : k < s.size := by omega
      clear hat
      go_wp2
      go_roundw
      case rel => exact ⟨k + 1, by omega, rfl, rfl, by go_num, trivial⟩
      case measure => simp [intOf]; omega
    · obtain rfl : k = i := by omega
      have c1 : (0 : Int) ≤ ↑k := by omega
      have c2 : (↑k : Int) ≤ ↑s.size := by omega
      have c3 : (0 : Int) ≤ ↑k + 1 := by omega
      have c4 : (↑k + 1 : Int) ≤ ↑s.size := by omega
      go_wp2_with fail
      with_reducible refine (PX _).mono ?_
      rintro r w1 ⟨rfl, b1⟩
      go_wp2_with fail
      with_reducible refine (PY _).mono ?_
      rintro r w2 ⟨rfl, b2⟩
      have B2 := on' b1 b2
      clear b1 b2
      go_wp2_with fail
      with_reducible refine (TT _).mono ?_
      rintro r w3 ⟨rfl, b3⟩
      have B3 := on' B2 b3
      clear B2 b3 PX PY TT
      cases e with
      | false => go_wp2; go_ret3; exact ⟨rfl, B3⟩
      | true =>
        cases f with
        | false => go_wp2; go_ret3; exact ⟨rfl, B3⟩
        | true =>
          cases c with
          | false => go_wp2; go_ret3; exact ⟨rfl, B3⟩
          | true => go_wp2; go_ret3; exact ⟨rfl, B3⟩
end Go.Proofs.YtjaabjehegcnaaaDoor
