/-
  KeySorts: the entries of every list in their order are the document's (P4.1). For every list of entries (the law looks at the first 60).
  Conditions: those of the given row (the library's tables lie as their initialisers lay them).
-/
import Derived.Test.YthfdpnmdcmpgbaaDoorAppendKit
import Derived.Test.YthfdpnmdcmpgbaaDoorKeyFrame2
namespace Go.Proofs.YthfdpnmdcmpgbaaDoor.keySorts
set_option maxRecDepth 100000
open Go.RowKit Go.Sort

/-- The first k entries. -/
def ls (z : Nat → En) (k : Nat) : List En := (List.range k).map z
theorem ls_length (z : Nat → En) (k : Nat) : (ls z k).length = k := by unfold ls; simp
theorem ls_succ (z : Nat → En) (k : Nat) : ls z (k + 1) = ls z k ++ [z k] := by unfold ls; rw [List.range_succ]; simp
theorem ls_get (z : Nat → En) (k i : Nat) (h : i < (ls z k).length) : (ls z k)[i] = z i := by simp [ls]

theorem own_form {wr : World} {B : Nat} {T : TypeId} {v : Value} {l : List En} {n : Nat} (_hn : l.length = n) (h : wr.ownsRow B T 4 v n (flatE l)) : ∃ p c, v = .slice p n c ∧ (0 < n → ∃ g, p = some ⟨g, 0, none⟩ ∧ ListAt wr g l) := by
  have hh := h
  obtain ⟨h1, ⟨h2, h3⟩ | ⟨g, cap, cur, h2, h3, h4, h5, h6, h7, h8⟩⟩ := h
  · exact ⟨none, 0, by rw [h3]; exact h2, fun h0 => absurd h0 (by omega)⟩
  · subst h2
    exact ⟨_, _, rfl, fun _ => ⟨g, rfl, own_list hh⟩⟩
theorem sort_own {wr : World} {B : Nat} {v : Value} {l : List En} {n : Nat} (hn : l.length = n) (hl : n ≤ 100) (h : wr.ownsRow B 27 4 v n (flatE l)) : Calls Tryd.prog 14 #[v] wr (IsSorted l wr) := by
  have hh := h
  obtain ⟨h1, ⟨h2, h3⟩ | ⟨g, cap, cur, h2, h3, h4, h5, h6, h7, h8⟩⟩ := h
  · obtain rfl : l = [] := List.eq_nil_of_length_eq_zero (by omega)
    subst h2
    exact sort_nil wr
  · subst h2
    have hL := own_list hh
    subst hn
    exact sort_some l hl g cap wr hL
theorem rsort_own {wr : World} {B : Nat} {v : Value} {l : List En} {n : Nat} (hn : l.length = n) (hl : n ≤ 100) (h : wr.ownsRow B 29 4 v n (flatE l)) : Calls Tryd.prog 15 #[v] wr (IsRSorted l wr) := by
  obtain ⟨p, c, rfl, hp⟩ := own_form hn h
  subst hn
  exact rsort_any l hl p c wr hp
theorem block_list {w : World} {g : Nat} {t : TypeId} {l : List En} (h : w.heap[g]? = some (.cells (flatE l).toArray t (0, 0))) : ListAt w g l := by
  refine ⟨(Array.getElem?_eq_some_iff.1 h).1, fun j v hj => ?_⟩
  rw [cell_of_row w g j _ t (0, 0) h]
  simpa using hj
/-- What is compared at the end. -/
structure Fin4 (w : World) (L : Nat) (z : Nat → En) (a : Option Addr) (gs : Nat) (pa p2 : Option Addr) (wr : World) : Prop where
  mk ::
  G : ListAt wr gs (srt (ls z L))
  A : 0 < L → ∃ g, pa = some ⟨g, 0, none⟩ ∧ ListAt wr g (ls z L)
  W : 0 < L → ∃ g, p2 = some ⟨g, 0, none⟩ ∧ ListAt wr g (srt (ls z L))
  E : Ents wr a L z
  T : TabOk wr
  be : Below w.heap.size w wr
theorem Fin4.next {w wr w' : World} {L : Nat} {z : Nat → En} {a : Option Addr} {gs : Nat} {pa p2 : Option Addr} (h : Fin4 w L z a gs pa p2 wr) (hb : Below wr.heap.size wr w') : Fin4 w L z a gs pa p2 w' :=
  ⟨h.G.next hb, fun h0 => by obtain ⟨g, h1, h2⟩ := h.A h0; exact ⟨g, h1, h2.next hb⟩, fun h0 => by obtain ⟨g, h1, h2⟩ := h.W h0; exact ⟨g, h1, h2.next hb⟩, h.E.below hb, h.T.below hb, h.be.trans (hb.mono h.be.size)⟩

set_option maxHeartbeats 8000000 in
theorem walk (a : Option Addr) (len cap : Nat) (z : Nat → En) (w : World) (h : IsEnts w a len cap z) (hT : TabOk w) :
    Calls Tryd.prog 4 #[.slice a len cap] w fun e w' => e = .returned (.bool true) ∧ Below w.heap.size w w' := by
  obtain ⟨hE, hlc, hcm⟩ := h
  unfold maxLen at hcm
  obtain ⟨L, hL, hL1, hL2⟩ : ∃ L : Nat, (min (len : Int) 60).toNat = L ∧ L ≤ len ∧ L ≤ 60 := ⟨_, rfl, by omega, by omega⟩
  have hE := Lib.hid (hE.less hL1)
  have HT := Lib.hid hT
  clear hT
  go_enter Tryd.func4, Tryd.ntmps4
  go_wp2
  go_loopw [3, 4, 17] (fun va vb i wr => ∃ k : Nat, k ≤ L ∧ i = .int .i64 k ∧ Both w k (ls z k) va vb wr) (fun _ _ i _ => L - (intOf i).toNat)
  case atStart => exact ⟨0, by omega, rfl, World.ownsRow_nil _ _ _ _, World.ownsRow_nil _ _ _ _, (fun q h => by simp [Value.ownBlock] at h), Below.refl _ _⟩
  case round =>
    obtain ⟨k, hk, rfl, hB⟩ := hrel
    by_cases hlt : k < L
    · obtain ⟨b, off, rfl, hb, hc⟩ := (hE.out.below hB.be).at_ (by omega)
      obtain ⟨c0, c1, c2, c3⟩ := hc k hlt
      obtain ⟨x, hx⟩ : ∃ x, z k = x := ⟨_, rfl⟩
      rw [hx] at c0 c1 c2 c3
      have HX := Lib.hid hx
      have c01 : (0 : Int) ≤ (k : Int) := by omega
      have c02 : (k : Int) < (L : Int) := by omega
      have HB := Lib.hid hB
      clear hc hx hB
      go_wp2
      clear c0 c1 c2 c3
      obtain ⟨i0, hi0, hz0, hz1, hz2⟩ := info_parts' infoE
      obtain ⟨j0, hj0, hy0, hy1, hy2⟩ := info_parts' infoR
      have one4 : ∀ u ∈ encE x, u.oneCell' = true := by intro u hu; simp [encE] at hu; rcases hu with rfl | rfl | rfl | rfl <;> rfl
      have OX := of_any x
      unfold entV at OX
      refine region_inv (Inv := fun l a wq => ∃ (e : Nat → Bool) (t : Nat → Value) (g : Nat → Nat), l = #[e 0, e 1, e 2, e 3, e 4, e 5, e 6, e 7, e 8, e 9, e 10] ∧ a = ⟨#[.slice (some ⟨b, off, none⟩) L cap, undef, .bool false, t 3, t 4, undef, .pointer (some ⟨wr.heap.size, 0, none⟩), undef, undef, undef, .slice (some ⟨b, off, none⟩) len cap, .slice (some ⟨b, off, none⟩) len cap, .int .i64 len, .int .i64 (min (len : Int) 60), .slice (some ⟨b, off, none⟩) L cap, .slice (some ⟨b, off, none⟩) L cap, .int .i64 L, .int .i64 k, .bool true, .pointer (some ⟨b, off + k * 4, none⟩), .agg #[.int .i64 x.b, .int .i64 x.d, .int .i64 x.s, .int .i64 x.i], t 21, t 22, t 23, t 24, t 25, t 26, t 27, t 28, t 29, u30, undef, undef, undef, undef, undef, undef, undef, undef, undef, undef, undef, undef, undef, undef, undef, undef, undef, undef, undef, undef, undef, undef, undef, undef, undef, undef, undef, undef, undef, undef, undef, undef, undef, undef, undef, undef, undef, undef], []⟩ ∧ App w (wr.heap.size + 1) wr.heap.size x k (ls z k) u3 u4 e t g wq) (by kernel_rfl) ?step ?start ?done
      case start => exact ⟨fun _ => false, fun i => if i = 3 then u3 else if i = 4 then u4 else if i = 21 then u21 else if i = 22 then u22 else if i = 23 then u23 else if i = 24 then u24 else if i = 25 then u25 else if i = 26 then u26 else if i = 27 then u27 else if i = 28 then u28 else if i = 29 then u29 else undef, fun _ => 0, rfl, rfl, App.start HB.out HB.out.be.size 23 _ rfl rfl⟩
      case step =>
        obtain ⟨wO, hwO⟩ : ∃ q, q = wr := ⟨wr, rfl⟩
        subst hwO
        rintro l a wr ⟨e, t, g, rfl, rfl, hs⟩ i o ho hi ha
        match i, ho, hi, ha with
        | 0, ho, hi, ha =>
          obtain rfl : _ = o := Option.some.inj ho
          have hi : e 0 = false := hi
          have T3 : t 3 = u3 := hs.s3 (hs.not9 hi)
          have H3 := Lib.hid T3
          refine wpOp_step (i := 0) rfl (fun K hK => ?_)
          have HK : Shut (∀ a w, _ → K a w) := hK
          clear hK ho
          have HS := Lib.hid hs
          have HI := Lib.hid hi
          clear hs ha hi
          go_simp
          exact HK.out _ _ ⟨upd e 0 true, upd (upd t 3 _) 21 _, g, rfl, rfl, by rw [upd_self H3.out]; exact HS.out.op0⟩
        | 1, ho, hi, ha =>
          obtain rfl : _ = o := Option.some.inj ho
          have hi : e 1 = false := hi
          obtain ⟨q0, q1, q2, q3, qz⟩ := hs.X
          refine wpOp_step (i := 1) rfl (fun K hK => ?_)
          have HK : Shut (∀ a w, _ → K a w) := hK
          clear hK ho
          have HS := Lib.hid hs
          have HI := Lib.hid hi
          clear hs ha hi
          go_simp
          exact HK.out _ _ ⟨upd e 1 true, upd t 22 _, g, rfl, rfl, HS.out.op1⟩
        | 2, ho, hi, ha =>
          obtain rfl : _ = o := Option.some.inj ho
          have hi : e 2 = false := hi
          have T1 : t 22 = .agg #[.int .i64 x.b, .int .i64 x.d, .int .i64 x.s, .int .i64 x.i] := hs.v1 (ha { on := 1, ground := .data } (by simp) rfl)
          have H1 := Lib.hid T1
          refine wpOp_step (i := 2) rfl (fun K hK => ?_)
          have HK : Shut (∀ a w, _ → K a w) := hK
          clear hK ho
          have HS := Lib.hid hs
          have HI := Lib.hid hi
          clear hs ha hi
          go_simp
          (with_reducible refine (OX _).mono ?_)
          rintro e' w' ⟨rfl, m⟩
          go_wp2_with fail
          exact HK.out _ _ ⟨upd e 2 true, upd (upd t 22 _) 23 _, g, rfl, rfl, by rw [upd_self H1.out]; exact (HS.out.grow m.below).op2⟩
        | 3, ho, hi, ha =>
          obtain rfl : _ = o := Option.some.inj ho
          have hi : e 3 = false := hi
          have T2 : t 23 = .agg #[.int .i64 x.b, .int .i64 x.d, .int .i64 x.s, .int .i64 x.i] := hs.v2 (ha { on := 2, ground := .data } (by simp) rfl)
          have H2 := Lib.hid T2
          refine wpOp_step (i := 3) rfl (fun K hK => ?_)
          have HK : Shut (∀ a w, _ → K a w) := hK
          clear hK ho
          have HS := Lib.hid hs
          have HI := Lib.hid hi
          clear hs ha hi
          go_simp
          exact HK.out _ _ ⟨upd e 3 true, upd (upd t 23 _) 24 _, upd g 3 _, rfl, rfl, by rw [upd_self H2.out]; exact HS.out.op3⟩
        | 4, ho, hi, ha =>
          obtain rfl : _ = o := Option.some.inj ho
          have hi : e 4 = false := hi
          have d0 : e 0 = true := ha { on := 0, ground := .data } (by simp) rfl
          have d3 : e 3 = true := ha { on := 3, ground := .data } (by simp) rfl
          have TS : t 21 = u3 := hs.v0 d0
          obtain ⟨TX, _, hb3⟩ := hs.c3 d3 hi
          have hsz := hs.sz
          have hwl := hs.fix.wle
          refine wpOp_step (i := 4) rfl (fun K hK => ?_)
          refine step_append_lies wr rfl (.tmp 21) (.tmp 24) 39 rfl w.heap.size 27 i0 (.agg #[.int .i64 0, .int .i64 0, .int .i64 0, .int .i64 0]) 4 32 Tryd.underlying39 hi0 hz0 hz1 hz2 rfl (by decide) u3 k (flatE (ls z k)) TS (hs.A0 hi) ⟨g 3, 0, none⟩ 1 1 (encE x) TX rfl (World.news_of_block hb3) one4 (by omega) (by unfold maxLen; omega) (by omega) (by omega) wr.heap.size rfl ?_
          intro g' c' w' hown hgrow hat _
          exact hK _ _ ⟨upd e 4 true, upd t 25 _, g, rfl, rfl, hs.op4 hi d0 d3 hown hgrow hat⟩
        | 5, ho, hi, ha =>
          obtain rfl : _ = o := Option.some.inj ho
          have hi : e 5 = false := hi
          have T3 : t 4 = u4 := hs.s4 (hs.not10 hi)
          have H3 := Lib.hid T3
          refine wpOp_step (i := 5) rfl (fun K hK => ?_)
          have HK : Shut (∀ a w, _ → K a w) := hK
          clear hK ho
          have HS := Lib.hid hs
          have HI := Lib.hid hi
          clear hs ha hi
          go_simp
          exact HK.out _ _ ⟨upd e 5 true, upd (upd t 4 _) 26 _, g, rfl, rfl, by rw [upd_self H3.out]; exact HS.out.op5⟩
        | 6, ho, hi, ha =>
          obtain rfl : _ = o := Option.some.inj ho
          have hi : e 6 = false := hi
          obtain ⟨q0, q1, q2, q3, qz⟩ := hs.X
          refine wpOp_step (i := 6) rfl (fun K hK => ?_)
          have HK : Shut (∀ a w, _ → K a w) := hK
          clear hK ho
          have HS := Lib.hid hs
          have HI := Lib.hid hi
          clear hs ha hi
          go_simp
          exact HK.out _ _ ⟨upd e 6 true, upd t 27 _, g, rfl, rfl, HS.out.op6⟩
        | 7, ho, hi, ha =>
          obtain rfl : _ = o := Option.some.inj ho
          have hi : e 7 = false := hi
          have T2 : t 27 = .agg #[.int .i64 x.b, .int .i64 x.d, .int .i64 x.s, .int .i64 x.i] := hs.v6 (ha { on := 6, ground := .data } (by simp) rfl)
          have H2 := Lib.hid T2
          refine wpOp_step (i := 7) rfl (fun K hK => ?_)
          have HK : Shut (∀ a w, _ → K a w) := hK
          clear hK ho
          have HS := Lib.hid hs
          have HI := Lib.hid hi
          clear hs ha hi
          go_simp
          exact HK.out _ _ ⟨upd e 7 true, upd (upd t 27 _) 28 _, upd g 7 _, rfl, rfl, by rw [upd_self H2.out]; exact HS.out.op7⟩
        | 8, ho, hi, ha =>
          obtain rfl : _ = o := Option.some.inj ho
          have hi : e 8 = false := hi
          have d4 : e 4 = true := ha { on := 4, ground := .chain } (by simp) rfl
          have d5 : e 5 = true := ha { on := 5, ground := .data } (by simp) rfl
          have d7 : e 7 = true := ha { on := 7, ground := .data } (by simp) rfl
          have TS : t 26 = u4 := hs.v5 d5
          obtain ⟨TX, _, hb3⟩ := hs.c7 d7 hi
          have hsz := hs.sz
          have hwl := hs.fix.wle
          refine wpOp_step (i := 8) rfl (fun K hK => ?_)
          refine step_append_lies wr rfl (.tmp 26) (.tmp 28) 40 rfl w.heap.size 29 j0 (.agg #[.int .i64 0, .int .i64 0, .int .i64 0, .int .i64 0]) 4 32 Tryd.underlying40 hj0 hy0 hy1 hy2 rfl (by decide) u4 k (flatE (ls z k)) TS (hs.B0 hi) ⟨g 7, 0, none⟩ 1 1 (encE x) TX rfl (World.news_of_block hb3) one4 (by omega) (by unfold maxLen; omega) (by omega) (by omega) wr.heap.size rfl ?_
          intro g' c' w' hown hgrow hat _
          exact hK _ _ ⟨upd e 8 true, upd t 29 _, g, rfl, rfl, hs.op8 hi d4 d5 d7 hown hgrow hat⟩
        | 9, ho, hi, ha =>
          obtain rfl : _ = o := Option.some.inj ho
          have hi : e 9 = false := hi
          have d8 : e 8 = true := ha { on := 8, ground := .chain } (by simp) rfl
          have D8 := Lib.hid d8
          clear d8
          refine wpOp_step (i := 9) rfl (fun K hK => ?_)
          have HK : Shut (∀ a w, _ → K a w) := hK
          clear hK ho
          have HS := Lib.hid hs
          have HI := Lib.hid hi
          clear hs ha hi
          go_simp
          exact HK.out _ _ ⟨upd e 9 true, upd t 3 _, g, rfl, rfl, HS.out.op9 D8.out⟩
        | 10, ho, hi, ha =>
          obtain rfl : _ = o := Option.some.inj ho
          have hi : e 10 = false := hi
          have d9 : e 9 = true := ha { on := 9, ground := .chain } (by simp) rfl
          have D9 := Lib.hid d9
          clear d9
          refine wpOp_step (i := 10) rfl (fun K hK => ?_)
          have HK : Shut (∀ a w, _ → K a w) := hK
          clear hK ho
          have HS := Lib.hid hs
          have HI := Lib.hid hi
          clear hs ha hi
          go_simp
          exact HK.out _ _ ⟨upd e 10 true, upd t 4 _, g, rfl, rfl, HS.out.op10 D9.out⟩
        | k + 11, ho, hi, ha => simp at ho
      case done =>
        rintro l a wq ⟨e, t, g, rfl, rfl, hs⟩ hr
        have hd := ready_done hr rfl (by decide +kernel)
        have e4 : e 4 = true := hd 4 (by decide)
        have e8 : e 8 = true := hd 8 (by decide)
        have e9 : e 9 = true := hd 9 (by decide)
        have e10 : e 10 = true := hd 10 (by decide)
        have D := Lib.hid (hs.done e4 e8 e9 e10)
        rw [← HX.out, ← ls_succ] at D
        clear hs hd hr e4 e8 e9 e10 hi0 hz0 hz1 hz2 hj0 hy0 hy1 hy2 one4 OX HB
        generalize t 3 = v3 at *
        generalize t 4 = v4 at *
        go_wp2
        go_roundw
        case rel => exact ⟨k + 1, by omega, by go_num, D.out⟩
        case measure => simp [intOf]; omega
    · obtain rfl : k = L := by omega
      have S1 := sort_own (ls_length z k) (by omega) hB.A
      have R1 := fun W hb => rsort_own (wr := W) (ls_length z k) (by omega) (App.keep (wr := wr) hb hB.B)
      obtain ⟨pa, ca, rfl, hA⟩ := own_form (ls_length z k) hB.A
      unfold IsSorted at S1
      unfold IsRSorted at R1
      have hE1 := hE.out.below hB.be
      have F0 := Lib.hid (And.intro hA (And.intro hE1 hB.be))
      rw [ls_length] at S1 R1
      have HN := Lib.hid (ls_length z k)
      clear hB hA hE1
      go_wp2_with fail
      with_reducible refine S1.mono ?_
      rintro e w1 ⟨rfl, hg1, b1⟩
      have R2 := R1 w1 b1
      have HG1 := Lib.hid hg1
      have HB1 := Lib.hid b1
      clear hg1 b1 S1 R1
      go_wp2_with fail
      with_reducible refine R2.mono ?_
      rintro e w2 ⟨v, rfl, hown, b2⟩
      obtain ⟨p2, c2, rfl, hW⟩ := own_form (by rw [srt_length]; exact HN.out) hown
      have F : Hid (Fin4 w k z a wr.heap.size pa p2 w2) := by
        obtain ⟨hA, hE1, hbe⟩ := F0.out
        have b12 := HB1.out.trans (b2.mono HB1.out.size)
        have bw : Below w.heap.size w w2 := hbe.trans (b12.mono hbe.size)
        exact ⟨(block_list HG1.out).next b2, fun h0 => by obtain ⟨g, h1, h2⟩ := hA h0; exact ⟨g, h1, h2.next b12⟩, hW, hE1.below b12, HT.out.below bw, bw⟩
      clear hown hW b2 R2 F0 HG1 HB1 HT hE
      obtain ⟨gs, hgs⟩ : ∃ gs, wr.heap.size = gs := ⟨_, rfl⟩
      rw [hgs] at F ⊢
      clear hgs
      go_wp2
      obtain ⟨wP, hwP⟩ : ∃ q, q = wr := ⟨wr, rfl⟩
      subst hwP
      go_loopw [42] (fun i wr => ∃ j : Nat, j ≤ k ∧ i = .int .i64 j ∧ Fin4 w k z a gs pa p2 wr) (fun i _ => k - (intOf i).toNat)
      case atStart => exact ⟨0, by omega, rfl, F.out⟩
      case round =>
        obtain ⟨j, hj, rfl, hF⟩ := hrel
        by_cases hjk : j < k
        · obtain ⟨ga, rfl, _⟩ := hF.A (by omega)
          obtain ⟨g2, rfl, _⟩ := hF.W (by omega)
          obtain ⟨b, off, rfl, _, _⟩ := hF.E.at_ (by omega)
          have hj1 : j < (ls z k).length := by rw [HN.out]; exact hjk
          have hj2 : j < (srt (ls z k)).length := by rw [srt_length]; exact hj1
          obtain ⟨y, hy⟩ : ∃ y, (srt (ls z k))[j] = y := ⟨_, rfl⟩
          obtain ⟨x, hx⟩ : ∃ x, z j = x := ⟨_, rfl⟩
          have cells : ∀ W, Fin4 w k z (some ⟨b, off, none⟩) gs (some ⟨ga, 0, none⟩) (some ⟨g2, 0, none⟩) W → W.cell? ⟨gs, j * 4, none⟩ = some (.int .i64 y.b) ∧ W.cell? ⟨gs, j * 4 + 1, none⟩ = some (.int .i64 y.d) ∧ W.cell? ⟨gs, j * 4 + 2, none⟩ = some (.int .i64 y.s) ∧ W.cell? ⟨gs, j * 4 + 3, none⟩ = some (.int .i64 y.i) ∧ W.cell? ⟨g2, j * 4, none⟩ = some (.int .i64 y.b) ∧ W.cell? ⟨g2, j * 4 + 1, none⟩ = some (.int .i64 y.d) ∧ W.cell? ⟨g2, j * 4 + 2, none⟩ = some (.int .i64 y.s) ∧ W.cell? ⟨g2, j * 4 + 3, none⟩ = some (.int .i64 y.i) ∧ W.cell? ⟨ga, j * 4, none⟩ = some (.int .i64 x.b) ∧ W.cell? ⟨ga, j * 4 + 1, none⟩ = some (.int .i64 x.d) ∧ W.cell? ⟨ga, j * 4 + 2, none⟩ = some (.int .i64 x.s) ∧ W.cell? ⟨ga, j * 4 + 3, none⟩ = some (.int .i64 x.i) ∧ W.cell? ⟨b, off + j * 4, none⟩ = some (.int .i64 x.b) ∧ W.cell? ⟨b, off + j * 4 + 1, none⟩ = some (.int .i64 x.d) ∧ W.cell? ⟨b, off + j * 4 + 2, none⟩ = some (.int .i64 x.s) ∧ W.cell? ⟨b, off + j * 4 + 3, none⟩ = some (.int .i64 x.i) := by
            intro W f
            have q1 := f.G.get hj2
            obtain ⟨q, hq, q2⟩ := f.W (by omega)
            cases hq
            have q2 := q2.get hj2
            obtain ⟨q, hq, q3⟩ := f.A (by omega)
            cases hq
            have q3 := q3.get hj1
            obtain ⟨q, o, hq, _, q4⟩ := f.E.at_ (by omega)
            cases hq
            have q4 := q4 j hjk
            rw [hy] at q1 q2
            rw [ls_get, hx] at q3
            rw [hx] at q4
            exact ⟨q1.1, q1.2.1, q1.2.2.1, q1.2.2.2, q2.1, q2.2.1, q2.2.2.1, q2.2.2.2, q3.1, q3.2.1, q3.2.2.1, q3.2.2.2, q4.1, q4.2.1, q4.2.2.1, q4.2.2.2⟩
          have C := Lib.hid cells
          have F := Lib.hid (hF.next (Below.refl _ _).drew)
          have OY := of_any y
          have OX := of_any x
          unfold entV at OX OY
          have c11 : (0 : Int) ≤ (j : Int) := by omega
          have c12 : (j : Int) < (k : Int) := by omega
          clear cells hF hy hx hj1 hj2
          go_wp2
          go_region_held3 (fun w' => w'.cell? ⟨gs, j * 4, none⟩ = some (.int .i64 y.b) ∧ w'.cell? ⟨gs, j * 4 + 1, none⟩ = some (.int .i64 y.d) ∧ w'.cell? ⟨gs, j * 4 + 2, none⟩ = some (.int .i64 y.s) ∧ w'.cell? ⟨gs, j * 4 + 3, none⟩ = some (.int .i64 y.i) ∧ w'.cell? ⟨g2, j * 4, none⟩ = some (.int .i64 y.b) ∧ w'.cell? ⟨g2, j * 4 + 1, none⟩ = some (.int .i64 y.d) ∧ w'.cell? ⟨g2, j * 4 + 2, none⟩ = some (.int .i64 y.s) ∧ w'.cell? ⟨g2, j * 4 + 3, none⟩ = some (.int .i64 y.i) ∧ w'.cell? ⟨ga, j * 4, none⟩ = some (.int .i64 x.b) ∧ w'.cell? ⟨ga, j * 4 + 1, none⟩ = some (.int .i64 x.d) ∧ w'.cell? ⟨ga, j * 4 + 2, none⟩ = some (.int .i64 x.s) ∧ w'.cell? ⟨ga, j * 4 + 3, none⟩ = some (.int .i64 x.i) ∧ w'.cell? ⟨b, off + j * 4, none⟩ = some (.int .i64 x.b) ∧ w'.cell? ⟨b, off + j * 4 + 1, none⟩ = some (.int .i64 x.d) ∧ w'.cell? ⟨b, off + j * 4 + 2, none⟩ = some (.int .i64 x.s) ∧ w'.cell? ⟨b, off + j * 4 + 3, none⟩ = some (.int .i64 x.i)) (exact C.out _ F.out)
            (first
              | (go_at_call 6; (with_reducible refine (OY _).mono ?_); rintro e wn ⟨rfl, m⟩; have F := Lib.hid (F.out.next m.below); clear m)
              | (go_at_call 6; (with_reducible refine (OX _).mono ?_); rintro e wn ⟨rfl, m⟩; have F := Lib.hid (F.out.next m.below); clear m))
          all_goals
            go_wp2
            go_roundw
            case rel => exact ⟨j + 1, by omega, by go_num, F.out⟩
            case measure => simp [intOf]; omega
        · have WK := wakes_any wr hF.T
          have HBe := Lib.hid hF.be
          clear hF F
          obtain rfl : j = k := by omega
          go_wp2_with fail
          with_reducible refine WK.mono ?_
          rintro e w3 ⟨rfl, m⟩
          have BE := HBe.out.trans (m.below.mono HBe.out.size)
          clear m WK HBe
          go_wp2
          go_ret
          exact ⟨rfl, BE⟩


/-! ### the row -/
open Go.ChangeShapes Go.WideShapes Go.ChangeAt
theorem lifted (os : Os) (started : os.Started) (H : Type) (enc : TypeId × Value → H) :
    ReturnsInHanded {} Tryd.checked os 4 .any (fun w args => (Rows.keySortsSpec.pre enc Tryd.prog Tryd.f4 [] false w args ∧ laidMetH Tryd.prog laidL w) ∧ sizedMet enc Tryd.prog Tryd.f4 (OpenSpec.ofChange Rows.keySortsSpec) false w args)
      (Rows.keySortsSpec.post enc Tryd.prog Tryd.f4 false true false false) := by
  refine returnsInHanded_of_change_and (C := Tryd.checked) (X := fun w _ => laidMetH Tryd.prog laidL w) (fun _ _ _ hh h => h.of_heap hh) own started (by kernel_rfl) Tryd.func4
    (ChangeSpec.witness_shaped (enc := enc) (C := Tryd.checked) (os := os) (X := fun w _ => laidMetH Tryd.prog laidL w) false (World.doorLaid Tryd.prog 400 os) #[.slice none 0 0] 8 rfl (World.shaped_of_RefB (by kernel_rfl) (by kernel_rfl)) (by kernel_rfl) (by kernel_rfl) (by kernel_rfl) (door_met os _)) ?_
  intro W base args ds gs before hval0 hW _ hsz0 hL _
  have hval : ∀ (j : Nat) t v, Tryd.f4.params[j]? = some t → args[j]? = some v → Value.okWide Tryd.prog W .any base t v := hval0
  have hW' := hW
  obtain ⟨p, q, hA0, hV, rfl, hfz, hnd⟩ := hW
  have hA : DataW.TrodAll enc Tryd.prog W 0 (fun _ => true) true Tryd.f4.params.toList args.toList ds p := hA0
  rw [Tryd.params4] at hA hval
  obtain ⟨v0, vs0, d0, ds0, p0, q0, hargs, rfl, rfl, h0, r0⟩ := trodAll_cons hA
  obtain ⟨rfl, rfl, rfl⟩ := trodAll_nil r0
  obtain rfl : args = #[v0] := by cases args; simp_all
  obtain ⟨rfl, rfl⟩ := trodVars_none hV
  have k0 := h0
  have lt0 : ∀ x ∈ p0, x.block < W.heap.size := by obtain ⟨m, hm⟩ := k0; exact DataW.trod_lt m _ _ _ hm
  obtain ⟨x0, l0, c0, zs0, w0, rfl⟩ := open_ents (hval 0 38 v0 rfl rfl) h0
  clear hA0 hval0
  refine (walk x0 l0 c0 zs0 W w0 (tabOk_of_laid hL)).mono fun e W' ⟨he, bel⟩ => ?_
  subst he
  exact ⟨_, rfl, _, _, _, [], _, [], hW', trodAll_mk1 (shut_bool Tryd.underlying4 _), (trodAll_cons_mk (Below.trod laidOut (by kernel_rfl) (of_decide_eq_true (by kernel_rfl)) k0 bel lt0) trodAll_mk0), rfl, bel.frame _, fun h => by cases h⟩

theorem over : Rows.keySortsRow.holds Tryd.pinned (OpenSpec.ofChange Rows.keySortsSpec) :=
  OpenClaim.holds_of_wide 4 Tryd.f4 rfl rfl rfl rfl rfl rfl rfl ⟨rfl, rfl, rfl, rfl, rfl⟩ rfl rfl rfl rfl rfl (by kernel_rfl) Tryd.func4 (by kernel_rfl)
    (of_decide_eq_true (by kernel_rfl)) (by unfold Func.isWrapper; first | (rw [if_pos (by decide +kernel)]; kernel_rfl) | (rw [if_neg (by decide +kernel)]; exact ⟨rfl, rfl⟩))
    (fun os started H enc _ => lifted os started H enc)

theorem card : Rows.KeySortsCardSaid :=
  Claim7.holds_tied_plain_at .later [] [.data, .data, .data] true _ false
    over (fun _ h => by cases h) (by kernel_rfl) (fun _ h => by cases h) keySorts_row_tie rfl ⟨rfl, rfl⟩ (by kernel_rfl) rfl
    (fun f fn hf hfn => by
      obtain rfl : f = 4 := Option.some.inj ((show Tryd.prog.funcNamed Rows.keySortsRow.func = some 4 by kernel_rfl).symm.trans hf) |>.symm
      obtain rfl : fn = Tryd.f4 := (Option.some.inj (Tryd.func4.symm.trans hfn)).symm
      exact ⟨by kernel_rfl, fun j t ht => by
        rw [Tryd.params4] at ht
        have hm : t ∈ [38] := by simpa using Array.mem_of_getElem? ht
        have hall : ([38].all fun u => !Tryd.prog.wantsStandIn u) = true := by kernel_rfl
        exact (show Tryd.prog.wantsStandIn t = false by simpa using List.all_eq_true.1 hall t hm)⟩)
    (by kernel_rfl)

end Go.Proofs.YthfdpnmdcmpgbaaDoor.keySorts
namespace Go.Proofs.YthfdpnmdcmpgbaaDoor
theorem keySorts_holds : Rows.KeySortsCardSaid := keySorts.card
#print axioms keySorts_holds
end Go.Proofs.YthfdpnmdcmpgbaaDoor

