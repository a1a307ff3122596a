/-
  What Tidy does with every text (layer 11), and what every statement of the layer asks first.
-/
import Derived.Test.YtbadingdklenhaaGreatDoorShowPrint
import Derived.Test.YtbadingdklenhaaGreatDoorParseFull
namespace Go.Proofs.YtbadingdklenhaaGreatDoor
set_option maxRecDepth 100000
open Go.RowKit

/-- Tidy's error, its text. -/
def tdE (l : List UInt8) : Int := if (parseL l).err = 0 then prE (parseL l).inst else (parseL l).err
def tdT (l : List UInt8) : List UInt8 := if (parseL l).err = 0 then prT (parseL l).inst else []
/-- P11.2: what is printed is tidy. -/
theorem tidy_show {I : In} (h : I.chk = 0) (hl : (instT I).length ≤ 1048576) : tdE (instT I) = 0 ∧ tdT (instT I) = instT I := by
  have e := parse_show h hl
  have h1 : prE I = 0 := by unfold prE; rw [if_pos h, if_pos hl]
  unfold tdE tdT
  rw [e]
  simp only [if_true]
  exact ⟨h1, by unfold prT; rw [h1, if_pos rfl]⟩
set_option maxHeartbeats 1000000 in
theorem tidy_any (s : ByteArray) (w : World) (hL : LibOk w) (hW : WordsOk w) (hT : TabOk w) :
    Calls Tryz.prog 12 #[.string s] w fun e w' => e = .returned (.tuple #[.string ⟨(tdT s.data.toList).toArray⟩, .int .i64 (tdE s.data.toList)]) ∧ Below w.heap.size w w' := by
  have PA := fun W a b => parse_any s W a b
  have PR := fun F G I v W a b c => print_any F G I v W a b c
  unfold IsPs at PA
  obtain ⟨te, hte⟩ : ∃ x, tdE s.data.toList = x := ⟨_, rfl⟩
  obtain ⟨tt, htt⟩ : ∃ x, tdT s.data.toList = x := ⟨_, rfl⟩
  rw [hte, htt]
  unfold tdE at hte
  unfold tdT at htt
  obtain ⟨PS, hPS⟩ : ∃ q, parseL s.data.toList = q := ⟨_, rfl⟩
  rw [hPS] at PA hte htt
  obtain ⟨I, l, c, er⟩ := PS
  simp only at *
  by_cases he : er = 0
  · subst he
    rw [if_pos rfl] at hte htt
    subst hte htt
    clear hPS
    go_enter Tryz.func12, Tryz.ntmps12
    go_wp2_with fail
    with_reducible refine (PA w hL hW).mono ?_
    rintro e w1 ⟨v, rfl, hI, b1⟩
    obtain ⟨A0, n0, C0, A1, n1, C1, A2, n2, C2, rfl⟩ := InV hI
    have nb : Below w1.heap.size w1 ((w1.alloc (.cells #[.int .i64 I.kind, .int .i64 I.cap, .slice A0 n0 C0, .slice A1 n1 C1, .int .i64 I.size, .slice A2 n2 C2] 33)).alloc (.cells #[.int .i64 (l : Nat), .int .i64 (c : Nat)] 52)) := (new_below _ _).alloc (by simp) _
    have hb := b1.trans (nb.mono b1.size)
    have P1 := PR _ _ I _ _ (hI.next nb) (hW.next hb) (hT.next hb)
    have HB := Lib.hid hb
    clear hI nb hb b1 PA PR
    go_wp2_with fail
    with_reducible refine P1.mono ?_
    rintro e w2 ⟨rfl, b2⟩
    have HB2 := Lib.hid (HB.out.trans (b2.mono HB.out.size))
    clear P1 b2 HB
    go_wp2
    go_ret2
    exact ⟨rfl, HB2.out⟩
  · rw [if_neg he] at hte htt
    subst hte htt
    have he2 : ¬ (er : Int) = 0 := by omega
    clear hPS PR he
    go_enter Tryz.func12, Tryz.ntmps12
    go_wp2_with fail
    with_reducible refine (PA w hL hW).mono ?_
    rintro e w1 ⟨v, rfl, hI, b1⟩
    obtain ⟨A0, n0, C0, A1, n1, C1, A2, n2, C2, rfl⟩ := InV hI
    have nb : Below w1.heap.size w1 ((w1.alloc (.cells #[.int .i64 I.kind, .int .i64 I.cap, .slice A0 n0 C0, .slice A1 n1 C1, .int .i64 I.size, .slice A2 n2 C2] 33)).alloc (.cells #[.int .i64 (l : Nat), .int .i64 (c : Nat)] 52)) := (new_below _ _).alloc (by simp) _
    have HB := Lib.hid (b1.trans (nb.mono b1.size))
    clear hI nb b1 PA
    go_wp2
    go_ret2
    exact ⟨rfl, HB.out⟩

def wakeT : List UInt8 := [99, 111, 118, 101, 114, 32, 51, 32, 115, 101, 116, 32, 53, 58, 48, 32, 50]
def wakeU : List UInt8 := [99, 111, 118, 101, 114, 32, 51, 10, 115, 101, 116, 32, 53, 58, 32, 48, 32, 50, 10]
theorem itoa_lt {u : Nat} (h : u < 10) : Lib.itoa (u : Int) = [UInt8.ofNat (48 + u)] := by
  unfold Lib.itoa
  rw [if_neg (by omega), Int.toNat_natCast, dec_lt h]
theorem wake_td : tdE wakeT = 0 ∧ tdT wakeT = wakeU := by
  have e : parseL wakeT = ⟨⟨3, 0, [], [], 3, [(5, [0, 2])]⟩, 0, 0, 0⟩ := by kernel_rfl
  have i3 : numT 3 = [32, 51] := by unfold numT; rw [show (3 : Int) = ((3 : Nat) : Int) from rfl, itoa_lt (by omega)]; rfl
  have i5 : numT 5 = [32, 53] := by unfold numT; rw [show (5 : Int) = ((5 : Nat) : Int) from rfl, itoa_lt (by omega)]; rfl
  have i0 : numT 0 = [32, 48] := by unfold numT; rw [show (0 : Int) = ((0 : Nat) : Int) from rfl, itoa_lt (by omega)]; rfl
  have i2 : numT 2 = [32, 50] := by unfold numT; rw [show (2 : Int) = ((2 : Nat) : Int) from rfl, itoa_lt (by omega)]; rfl
  have et : instT ⟨3, 0, [], [], 3, [(5, [0, 2])]⟩ = wakeU := by
    unfold instT
    rw [if_neg (by show ¬ (3 : Int) = 0; omega), if_pos rfl]
    simp only [setsT, numsT, i3, i5, i0, i2]
    rfl
  have hc : In.chk ⟨3, 0, [], [], 3, [(5, [0, 2])]⟩ = 0 := by kernel_rfl
  have h1 : prE ⟨3, 0, [], [], 3, [(5, [0, 2])]⟩ = 0 := by
    unfold prE
    rw [if_pos hc, et, if_pos (by decide)]
  unfold tdE tdT
  rw [e]
  simp only [if_true]
  exact ⟨h1, by unfold prT; rw [h1, if_pos rfl, et]⟩
end Go.Proofs.YtbadingdklenhaaGreatDoor
