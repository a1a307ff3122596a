/-
  LexRemarks: of whatever code points a remark is made of (a list of them that comes in; a line feed, and what is told as U+FFFD, left out; sixty at most), each counts one: Lex answers the End alone, as many places on. For every list, wherever it lies; under the row's own condition on the listed variables of Go's library.
-/
import Derived.Test.YtmiibffbakbklaaDoorLexFrame
import Derived.Test.YtmiibffbakbklaaDoorLexLineMath
namespace Go.Proofs.YtmiibffbakbklaaDoor.lexRemarks
set_option maxRecDepth 100000
open Go.RowKit Go.Proofs.YtmiibffbakbklaaDoor

/-- What the code points so far come to within a remark. -/
def Told (acc : List UInt8) (m : Nat) : Prop := ∀ R line col, lx (acc ++ R) line col true = lx R line (col + m) true
theorem told_nil : Told [] 0 := fun _ _ _ => rfl
theorem told_more {acc : List UInt8} {m : Nat} {z : Int} (h : Told acc m) (hv : Utf8.valid z = true) (h10 : z ≠ 10) : Told (acc ++ (Utf8.encode z).data.toList) (m + 1) := by
  intro R line col
  rw [List.append_assoc, h, lx_rune hv h10, show col + m + 1 = col + (m + 1) by omega]
theorem told_end {acc : List UInt8} {m : Nat} (h : Told acc m) (hl : acc.length ≤ 1000) : lexP (35 :: acc) = ⟨[⟨3, [], 0, 1, m + 2⟩], 0, 0, 0⟩ := by
  unfold lexP
  rw [if_neg (by simp only [List.length_cons]; omega), lx_cons, if_neg (by rw [pt_ascii (by decide)]; omega), if_neg (by decide), if_pos (show (false || isB 35) = true from rfl), pt_ascii (by decide)]
  show lx acc 1 2 true = _
  have := h [] 1 2
  rw [List.append_nil] at this
  rw [this, lx_nil, show 2 + m = m + 2 by omega]
  rfl
theorem enc_size (z : Int) : (Utf8.encode z).size ≤ 4 := by
  unfold Utf8.encode
  simp only
  repeat' split
  all_goals simp [ByteArray.size]

set_option maxHeartbeats 4000000 in
theorem walk (A : Option Addr) (len cap : Nat) (zs : List Int) (w : World) (hz : IsRunes w A len cap zs) (hL : LibOk w) :
    Calls Tryd.prog 6 #[.slice A len cap] w fun e w' => e = .returned (.bool true) ∧ Below w.heap.size w w' := by
  obtain ⟨L, hLe, hL1, hL2⟩ : ∃ L : Nat, (min (len : Int) 60).toNat = L ∧ L ≤ len ∧ L ≤ 60 := ⟨_, rfl, by omega, by omega⟩
  have hcells : ∀ k, k < L → ∃ x z, A = some x ∧ w.cell? (x.add k) = some (.int .i32 z) ∧ len ≤ cap ∧ cap ≤ maxLen := by
    intro k hk
    rcases hz with ⟨_, h0, _⟩ | ⟨x, h1, h2, h3, h4, h5, h6⟩
    · omega
    · exact ⟨x, _, h1, h5 k (by omega), h2, h3⟩
  have hcap : len ≤ cap ∧ cap ≤ maxLen := by
    rcases hz with ⟨_, h0, h1, _⟩ | ⟨x, h1, h2, h3, h4, h5, h6⟩
    · exact ⟨by omega, by unfold maxLen; omega⟩
    · exact ⟨h2, h3⟩
  obtain ⟨hc1, hc2⟩ := hcap
  unfold maxLen at hc2
  have HC := Lib.hid hcells
  clear hcells hz
  go_enter Tryd.func6, Tryd.ntmps6
  go_wp2
  go_loopw [3, 4, 16] (fun sv nv iv wr => ∃ (k m : Nat) (acc : ByteArray), k ≤ L ∧ m ≤ k ∧ acc.size ≤ 4 * k ∧ sv = .string acc ∧ nv = .int .i64 (m : Nat) ∧ iv = .int .i64 (k : Nat) ∧ Hid (Told acc.data.toList m) ∧ wr = w) (fun _ _ iv _ => L - (intOf iv).toNat)
  case atStart => exact ⟨0, 0, ⟨#[]⟩, by omega, by omega, by decide, rfl, rfl, rfl, told_nil, rfl⟩
  case round =>
    obtain ⟨k, m, acc, hk, hm, ha, rfl, rfl, rfl, hT, rfl⟩ := hrel
    by_cases hlt : k < L
    · obtain ⟨x, z, rfl, hcell, _, _⟩ := HC.out k hlt
      by_cases h10 : z = 10
      · subst h10
        go_wp2
        go_roundw
        case rel => exact ⟨k + 1, m, acc, by omega, by omega, by omega, rfl, rfl, by go_num, hT, trivial⟩
        case measure => simp [intOf]; omega
      · have q10 : (z == 10) = false := by simpa using h10
        by_cases hv : Utf8.valid z = true
        · have hes := enc_size z
          have hT2 := Lib.hid (told_more hT.out hv h10)
          have hsum : ¬ 9223372036854775807 < acc.size + (Utf8.encode z).size := by omega
          have hacc : (acc ++ Utf8.encode z).data.toList = acc.data.toList ++ (Utf8.encode z).data.toList := by rw [ByteArray.data_append]; simp
          have haz : (acc ++ Utf8.encode z).size = acc.size + (Utf8.encode z).size := ByteArray.size_append
          rw [← hacc] at hT2
          by_cases hq : ((Utf8.encode z).toList == [239, 191, 189]) = true
          · go_wp2
            go_roundw
            case rel => exact ⟨k + 1, m, acc, by omega, by omega, by omega, rfl, rfl, by go_num, hT, trivial⟩
            case measure => simp [intOf]; omega
          · have hq' : ((Utf8.encode z).toList == [239, 191, 189]) = false := by simpa using hq
            clear hq
            go_wp2
            go_roundw
            case rel => exact ⟨k + 1, m + 1, acc ++ Utf8.encode z, by omega, by omega, by omega, rfl, by go_num, by go_num, hT2, trivial⟩
            case measure => simp [intOf]; omega
        · have hq' : ((Utf8.encode z).toList == [239, 191, 189]) = true := by rw [enc_bad hv, Lib.toList_data]; rfl
          clear hv
          go_wp2
          go_roundw
          case rel => exact ⟨k + 1, m, acc, by omega, by omega, by omega, rfl, rfl, by go_num, hT, trivial⟩
          case measure => simp [intOf]; omega
    · obtain rfl : k = L := by omega
      have LX := fun W hW => lex_any ((⟨#[35]⟩ : ByteArray) ++ acc) W hW
      have e1 : ((⟨#[35]⟩ : ByteArray) ++ acc).data.toList = 35 :: acc.data.toList := by
        rw [ByteArray.data_append]
        simp
      rw [e1, told_end hT.out (by rw [size_list]; omega)] at LX
      have WK := fun W hW => wakes_any W hW
      go_wp2_with fail
      with_reducible refine (LX _ hL).mono ?_
      rintro e w1 ⟨v, rfl, own, b1⟩
      obtain ⟨A1, cap1, rfl, hk1, hk2, hg⟩ := toks_of_own own
      obtain ⟨g, rfl, hG⟩ := hg (Nat.zero_lt_one)
      have b2 := new_below w1 (.cells #[.int .i64 0, .int .i64 0] 24)
      have G := ToksAt.next hG b2
      have L2 := (hL.below b1).below b2
      have B2 := b1.trans (b2.mono b1.size)
      clear hG own LX
      go_wp2_with fail
      with_reducible refine (WK _ L2).mono ?_
      rintro e w3 ⟨rfl, b3⟩
      have G3 := G.next b3
      have B3 := B2.trans (b3.mono (by have := B2.size; exact this))
      have c4 := (G3.get (i := 0) rfl).2.2.2.1
      have c5 := (G3.get (i := 0) rfl).2.2.2.2
      have hgl := G3.1
      simp only [Nat.zero_mul, Nat.zero_add] at c4 c5
      unfold maxLen at hk2
      clear G G3 WK B2 b2 b1 b3 L2 hg
      go_wp2
      go_ret
      exact ⟨by simp, B3⟩
/-! ### the row -/
open Go.ChangeShapes Go.WideShapes Go.ChangeAt
theorem lifted (os : Os) (started : os.Started) (H : Type) (enc : TypeId × Value → H) :
    ReturnsInHanded {} Tryd.checked os 6 .any (fun w args => (Rows.lexRemarksSpec.pre enc Tryd.prog Tryd.f6 [] false w args ∧ laidMetH Tryd.prog laidL w) ∧ sizedMet enc Tryd.prog Tryd.f6 (OpenSpec.ofChange Rows.lexRemarksSpec) false w args)
      (Rows.lexRemarksSpec.post enc Tryd.prog Tryd.f6 false true false false) := by
  refine returnsInHanded_of_change_and (C := Tryd.checked) (X := fun w _ => laidMetH Tryd.prog laidL w) (fun _ _ _ hh h => h.of_heap hh) own started (by kernel_rfl) Tryd.func6
    (ChangeSpec.witness_shaped (enc := enc) (C := Tryd.checked) (os := os) (X := fun w _ => laidMetH Tryd.prog laidL w) false (World.laidAll Tryd.prog os laidL) #[.slice none 0 0] 8 (World.laidAll_os _ _ _) (start_shaped os) (by kernel_rfl) (by kernel_rfl) (by kernel_rfl) (start_met os _)) ?_
  intro W base args ds gs before hval0 hW _ hsz0 hL _
  have hval : ∀ (j : Nat) t v, Tryd.f6.params[j]? = some t → args[j]? = some v → Value.okWide Tryd.prog W .any base t v := hval0
  have hW' := hW
  obtain ⟨p, q, hA0, hV, rfl, hfz, hnd⟩ := hW
  have hA : DataW.TrodAll enc Tryd.prog W 0 (fun _ => true) true Tryd.f6.params.toList args.toList ds p := hA0
  rw [Tryd.params6] at hA hval
  obtain ⟨v0, vs0, d0, ds0, p0, q0, hargs, rfl, rfl, h0, r0⟩ := trodAll_cons hA
  obtain ⟨rfl, rfl, rfl⟩ := trodAll_nil r0
  obtain rfl : args = #[v0] := by cases args; simp_all
  obtain ⟨rfl, rfl⟩ := trodVars_none hV
  have k0 := h0
  have lt0 : ∀ x ∈ p0, x.block < W.heap.size := by obtain ⟨m, hm⟩ := k0; exact DataW.trod_lt m _ _ _ hm
  obtain ⟨x0, l0, c0, zs0, w0, rfl⟩ := open_runes (hval 0 45 v0 rfl rfl) h0
  clear hA0 hval0
  refine (walk x0 l0 c0 zs0 W w0 (libOk_of_laid hL)).mono fun e W' ⟨he, bel⟩ => ?_
  subst he
  exact ⟨_, rfl, _, _, _, [], _, [], hW', trodAll_mk1 (shut_bool Tryd.underlying4 _), (trodAll_cons_mk (Below.trod laidOut (by kernel_rfl) (of_decide_eq_true (by kernel_rfl)) k0 bel lt0) trodAll_mk0), rfl, bel.frame _, fun h => by cases h⟩

theorem over : Rows.lexRemarksRow.holds Tryd.pinned (OpenSpec.ofChange Rows.lexRemarksSpec) :=
  OpenClaim.holds_of_wide 6 Tryd.f6 rfl rfl rfl rfl rfl rfl rfl ⟨rfl, rfl, rfl, rfl, rfl⟩ rfl rfl rfl rfl rfl (by kernel_rfl) Tryd.func6 (by kernel_rfl)
    (of_decide_eq_true (by kernel_rfl)) (by unfold Func.isWrapper; first | (rw [if_pos (by decide +kernel)]; kernel_rfl) | (rw [if_neg (by decide +kernel)]; exact ⟨rfl, rfl⟩))
    (fun os started H enc _ => lifted os started H enc)

theorem card : Rows.LexRemarksCardSaid :=
  Claim7.holds_tied_plain_at .later [] [.data, .data, .data, .data, .sentinel, .sentinel, .pinned] true _ true
    over (fun _ h => by cases h) (by kernel_rfl) (fun _ h => by cases h) lexRemarks_row_tie rfl ⟨rfl, rfl⟩ (by kernel_rfl) rfl
    (fun f fn hf hfn => by
      obtain rfl : f = 6 := Option.some.inj ((show Tryd.prog.funcNamed Rows.lexRemarksRow.func = some 6 by kernel_rfl).symm.trans hf) |>.symm
      obtain rfl : fn = Tryd.f6 := (Option.some.inj (Tryd.func6.symm.trans hfn)).symm
      exact ⟨by kernel_rfl, fun j t ht => by
        rw [Tryd.params6] at ht
        have hm : t ∈ [45] := by simpa using Array.mem_of_getElem? ht
        have hall : ([45].all fun u => !Tryd.prog.wantsStandIn u) = true := by kernel_rfl
        exact (show Tryd.prog.wantsStandIn t = false by simpa using List.all_eq_true.1 hall t hm)⟩)
    (by kernel_rfl)

end Go.Proofs.YtmiibffbakbklaaDoor.lexRemarks
namespace Go.Proofs.YtmiibffbakbklaaDoor
theorem lexRemarks_holds : Rows.LexRemarksCardSaid := lexRemarks.card
#print axioms lexRemarks_holds
end Go.Proofs.YtmiibffbakbklaaDoor
