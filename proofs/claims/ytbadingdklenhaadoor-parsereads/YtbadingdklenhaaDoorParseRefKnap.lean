/-
  What the document's knapsack does with tokens.
-/
import Derived.Test.YtbadingdklenhaaDoorParseRef
import Derived.Test.YtbadingdklenhaaDoorParseSquare
namespace Go.Proofs.YtbadingdklenhaaDoor
set_option maxRecDepth 100000
open Go.RowKit

/-- How many tokens the document's reader may yet read. -/
def leftD (sb n : Nat) (w : World) : Nat := match w.cell? ⟨sb, 1, none⟩, w.cell? ⟨sb, 2, none⟩ with
  | some (.int _ k), some (.int _ e) => if e = 0 then n + 1 - k.toNat else 0
  | _, _ => 0
theorem St.left {sb g C : Nat} {L : List Tk} {q : Nat × Nat} {w : World} (h : St sb g C L q w) : leftD sb L.length w = if q.2 = 0 then L.length + 1 - q.1 else 0 := by
  obtain ⟨_, c1, c2, _, _⟩ := h.cells
  unfold leftD
  rw [c1, c2]
  simp
theorem St.set6 {sb g C : Nat} {L : List Tk} {q : Nat × Nat} {w : World} {b : Nat} {v0 v1 v2 v3 v4 v5 : Value} (h : St sb g C L q w) (h1 : b ≠ sb) (h2 : b ≠ g) : St sb g C L q (set6 b v0 v1 v2 v3 v4 v5 w) :=
  (((((h.other (a := ⟨b, 0, none⟩) h1 h2 v0).other (a := ⟨b, 1, none⟩) h1 h2 v1).other (a := ⟨b, 2, none⟩) h1 h2 v2).other (a := ⟨b, 3, none⟩) h1 h2 v3).other (a := ⟨b, 4, none⟩) h1 h2 v4).other (a := ⟨b, 5, none⟩) h1 h2 v5
/-- How a part of the document's reading stands: it goes on to R, or has failed. -/
def Alt {α : Type} (X : Nat → Rd α) (R : Rd α) (q : Nat × Nat) : Prop := (q.2 = 0 ∧ X q.1 = R) ∨ (q.2 ≠ 0 ∧ R = .no q.1 q.2)
theorem nN_ok {L : List Tk} {lo hi : Int} {q : Nat × Nat} : (q.2 = 0 ∧ ∃ m k, numR L lo hi 22 q.1 = .ok m k ∧ nN L lo hi q = (k, 0)) ∨ (q.2 = 0 ∧ ∃ j er, numR L lo hi 22 q.1 = .no j er ∧ nN L lo hi q = (j, er)) ∨ (q.2 ≠ 0 ∧ nN L lo hi q = q) := by
  unfold nN
  by_cases h : q.2 = 0
  · rw [if_pos h]
    cases hn : numR L lo hi 22 q.1 with
    | ok m k => exact .inl ⟨h, m, k, rfl, rfl⟩
    | no j er => exact .inr (.inl ⟨h, j, er, rfl, rfl⟩)
  · rw [if_neg h]; exact .inr (.inr ⟨h, rfl⟩)
theorem numR_err {L : List Tk} {lo hi : Int} {k j er : Nat} (h : numR L lo hi 22 k = .no j er) : er ≠ 0 := by
  unfold numR at h
  split at h
  · injection h with _ h; omega
  · split at h
    · split at h
      · cases h
      · injection h with _ h; omega
    · injection h with _ h; omega
/-- A number is read, or it fails. -/
theorem Alt.num {α : Type} {L : List Tk} {lo hi : Int} {q : Nat × Nat} {X : Int → Nat → Rd α} {R : Rd α} (h : Alt (fun k => (numR L lo hi 22 k).nx fun m k' => X m k') R q) {n : Int} (hn : ∀ m k', q.2 = 0 → numR L lo hi 22 q.1 = .ok m k' → n = m) : Alt (X n) R (nN L lo hi q) := by
  rcases nN_ok (L := L) (lo := lo) (hi := hi) (q := q) with ⟨h0, m, k, e1, e2⟩ | ⟨h0, j, er, e1, e2⟩ | ⟨h0, e2⟩
  · rw [e2]
    rcases h with ⟨_, h⟩ | ⟨h, _⟩
    · have h : (numR L lo hi 22 q.1).nx (fun m k' => X m k') = R := h
      rw [e1] at h
      rw [hn m k h0 e1]
      exact .inl ⟨rfl, h⟩
    · exact absurd h0 h
  · rw [e2]
    rcases h with ⟨_, h⟩ | ⟨h, _⟩
    · have h : (numR L lo hi 22 q.1).nx (fun m k' => X m k') = R := h
      rw [e1] at h
      exact .inr ⟨numR_err e1, h.symm⟩
    · exact absurd h0 h
  · rw [e2]
    rcases h with ⟨h, _⟩ | h
    · exact absurd h h0
    · exact .inr h
theorem Alt.word {α : Type} {L : List Tk} {t : List UInt8} {q : Nat × Nat} {X : Nat → Rd α} {R : Rd α} (h : Alt (fun k => (wordR L t k).nx fun _ k' => X k') R q) : Alt X R (nW L t q) := by
  unfold nW
  by_cases h0 : q.2 = 0
  · rw [if_pos h0]
    rcases h with ⟨_, h⟩ | ⟨h, _⟩
    · have h : (wordR L t q.1).nx (fun _ k' => X k') = R := h
      unfold wordR at h
      by_cases hw : isW L t q.1 = true
      · rw [if_pos hw] at h ⊢
        exact .inl ⟨rfl, h⟩
      · rw [if_neg hw] at h ⊢
        exact .inr ⟨by show (4 : Nat) ≠ 0; omega, h.symm⟩
    · exact absurd h0 h
  · rw [if_neg h0]
    rcases h with ⟨h, _⟩ | h
    · exact absurd h h0
    · exact .inr h
theorem nN_fst {L : List Tk} (hE : EndL L) {lo hi : Int} {q : Nat × Nat} (hq : q.1 < L.length) : q.1 ≤ (nN L lo hi q).1 := by
  rcases nN_ok (L := L) (lo := lo) (hi := hi) (q := q) with ⟨_, m, k, e1, e2⟩ | ⟨_, j, er, e1, e2⟩ | ⟨_, e2⟩
  · rw [e2]
    have := numR_fit hE (lo := lo) (hi := hi) (e := 22) (k := q.1) hq (.inr rfl)
    rw [e1] at this
    exact this.1
  · rw [e2]
    have := numR_fit hE (lo := lo) (hi := hi) (e := 22) (k := q.1) hq (.inr rfl)
    rw [e1] at this
    exact this.1
  · rw [e2]; exact Nat.le_refl _
theorem nN_fst2 {L : List Tk} (hE : EndL L) {lo hi : Int} {q : Nat × Nat} (hq : q.1 < L.length) : (nN L lo hi q).1 ≤ (nN L lo hi (nN L lo hi q)).1 := by
  refine nN_fst hE ?_
  rcases nN_ok (L := L) (lo := lo) (hi := hi) (q := q) with ⟨_, m, k, e1, e2⟩ | ⟨_, j, er, e1, e2⟩ | ⟨_, e2⟩
  · rw [e2]
    have := numR_fit hE (lo := lo) (hi := hi) (e := 22) (k := q.1) hq (.inr rfl)
    rw [e1] at this
    exact this.2
  · rw [e2]
    have := numR_fit hE (lo := lo) (hi := hi) (e := 22) (k := q.1) hq (.inr rfl)
    rw [e1] at this
    exact this.2.1
  · rw [e2]; exact hq
theorem nx_assoc {α β γ : Type} (r : Rd α) (f : α → Nat → Rd β) (g : β → Nat → Rd γ) : (r.nx f).nx g = r.nx fun a k => (f a k).nx g := by cases r <;> rfl
theorem nW_fst {L : List Tk} {t : List UInt8} {q : Nat × Nat} : q.1 ≤ (nW L t q).1 := by
  unfold nW
  split
  · split
    · exact Nat.le_succ _
    · exact Nat.le_refl _
  · exact Nat.le_refl _
theorem nN_snd {L : List Tk} {lo hi : Int} {q : Nat × Nat} (h : q.2 ≠ 0) : nN L lo hi q = q := if_neg h
theorem nW_snd {L : List Tk} {t : List UInt8} {q : Nat × Nat} (h : q.2 ≠ 0) : nW L t q = q := if_neg h

/-- What a part of the document's reading gives: an instance, or where it fails. -/
def RIs (sb g C : Nat) (L : List Tk) (R : Rd In) (w : World) (r : Ending) (w' : World) : Prop := ∃ v q a b A0 n0 C0 A1 n1 C1 z A2 n2 C2, r = .returned v ∧ v = .agg #[.int .i64 a, .int .i64 b, .slice A0 n0 C0, .slice A1 n1 C1, .int .i64 z, .slice A2 n2 C2] ∧ St sb g C L q w' ∧ Kb sb w w' ∧
  ((q.2 = 0 ∧ ∃ I, R = .ok I q.1 ∧ Ins (fun b => w.heap.size ≤ b) (fun b => w.heap.size ≤ b) w' v I) ∨ (q.2 ≠ 0 ∧ R = .no q.1 q.2))
theorem infoPr : (Tryd.prog.info? 64).map (fun i => (i.zero, i.size, i.bytes)) = some (some (.agg #[.int .i64 0, .int .i64 0]), 2, 16) := by kernel_rfl
/-- What stands while the document's knapsack reads items. -/
structure RKn (sb g C : Nat) (L : List Tk) (R : Rd In) (w : World) (cap : Int) (va : Value) (its : List (Int × Int)) (q : Nat × Nat) (wr : World) : Prop where
  mk ::
  res : IBlk w.heap.size 36 (.int .i64 0) (.int .i64 0) (.slice none 0 0) (.slice none 0 0) (.int .i64 0) (.slice none 0 0) wr
  box : IBlk (w.heap.size + 1) 36 (.int .i64 0) (.int .i64 cap) va (.slice none 0 0) (.int .i64 0) (.slice none 0 0) wr
  own : wr.ownsRow (w.heap.size + 2) 64 2 va its.length (fl2 its)
  st : St sb g C L q wr
  kb : Kb sb w wr
  alt : Alt (fun k => (itemsG L its k).nx fun l k3 => .ok (⟨0, cap, l, [], 0, []⟩ : In) k3) R q
  len : its.length ≤ 4096 ∨ (its.length ≤ 4097 ∧ q.2 ≠ 0)
section
variable {sb g C : Nat} {L : List Tk} {R : Rd In} {w : World} {cap : Int} {va : Value} {its : List (Int × Int)} {q q' : Nat × Nat} {wr w' : World}
theorem RKn.kb' (h : RKn sb g C L R w cap va its q wr) (hs : sb < w.heap.size) (kb : Kb sb wr w') : IBlk w.heap.size 36 (.int .i64 0) (.int .i64 0) (.slice none 0 0) (.slice none 0 0) (.int .i64 0) (.slice none 0 0) w' ∧ IBlk (w.heap.size + 1) 36 (.int .i64 0) (.int .i64 cap) va (.slice none 0 0) (.int .i64 0) (.slice none 0 0) w' ∧ w'.ownsRow (w.heap.size + 2) 64 2 va its.length (fl2 its) ∧ Kb sb w w' :=
  ⟨h.res.kb kb (by omega), h.box.kb kb (by omega), kb.own (by omega) h.own, h.kb.trans kb⟩
end

theorem rkn_step {sb g C : Nat} {L : List Tk} {R : Rd In} {w : World} {c : Int} {va : Value} {its : List (Int × Int)} {v u : Int} {q : Nat × Nat} {w7 w8 : World} {g' cap' : Nat} (hs0 : sb < w.heap.size) (hg0 : g < w.heap.size)
    (hrs : IBlk w.heap.size 36 (.int .i64 0) (.int .i64 0) (.slice none 0 0) (.slice none 0 0) (.int .i64 0) (.slice none 0 0) w7) (hbx : IBlk (w.heap.size + 1) 36 (.int .i64 0) (.int .i64 c) va (.slice none 0 0) (.int .i64 0) (.slice none 0 0) w7) (hown : w7.ownsRow (w.heap.size + 2) 64 2 va its.length (fl2 its)) (hkb : Kb sb w w7)
    (hS : St sb g C L q w7) (ha : Alt (fun k => (itemsG L (its ++ [(v, u)]) k).nx fun l k3 => .ok (⟨0, c, l, [], 0, []⟩ : In) k3) R q) (hl : (its ++ [(v, u)]).length ≤ 4096 ∨ ((its ++ [(v, u)]).length ≤ 4097 ∧ q.2 ≠ 0))
    (ho : w8.ownsRow (w.heap.size + 2) 64 2 (.slice (some ⟨g', 0, none⟩) (its.length + 1) cap') (its.length + 1) (fl2 its ++ [.int .i64 v, .int .i64 u])) (hgr : (w7.alloc (.cells #[.int .i64 v, .int .i64 u] 64)).grownBy w8 va.ownBlock) :
    RKn sb g C L R w c (.slice (some ⟨g', 0, none⟩) (its.length + 1) cap') (its ++ [(v, u)]) q (w8.setCell ⟨w.heap.size + 1, 2, none⟩ (.slice (some ⟨g', 0, none⟩) (its.length + 1) cap')) := by
  have hrow : ∀ k, va.ownBlock = some k → w.heap.size + 2 ≤ k := fun k hk => (hown.lt k hk).1
  have nb := new_below w7 (.cells #[.int .i64 v, .int .i64 u] 64)
  have r1 := hrs.next nb
  have b1 := hbx.next nb
  refine ⟨(r1.keep (hgr.block _ r1.lt (fun e => by have := hrow _ e.symm; omega))).other (a := ⟨w.heap.size + 1, 2, none⟩) (show w.heap.size ≠ w.heap.size + 1 by omega) _, (b1.keep (hgr.block _ b1.lt (fun e => by have := hrow _ e.symm; omega))).set2 _, ?_, ((hS.next nb).grown hgr (B := w.heap.size + 2) ⟨by omega, by omega⟩ hrow).other (a := ⟨w.heap.size + 1, 2, none⟩) (show w.heap.size + 1 ≠ sb by omega) (show w.heap.size + 1 ≠ g by omega) _, ((hkb.next nb).grown hgr (fun k hk => by have := hrow k hk; omega)).new (a := ⟨w.heap.size + 1, 2, none⟩) (show w.heap.size ≤ w.heap.size + 1 by omega) _, ha, hl⟩
  rw [List.length_append, List.length_singleton, fl2_append]
  exact ownsRow_setCell_below (a := ⟨w.heap.size + 1, 2, none⟩) ho (show w.heap.size + 1 < w.heap.size + 2 by omega) _
set_option maxHeartbeats 4000000 in
theorem rknap_any (sb g C : Nat) (L : List Tk) (hE : EndL L) (k0 : Nat) (w : World) (h : St sb g C L (k0, 0) w) :
    Calls Tryd.prog 13 #[.pointer (some ⟨sb, 0, none⟩)] w (RIs sb g C L (knapR L k0) w) := by
  have WD := fun q W hW => rword_any sb g C L hE q ⟨#[99, 97, 112, 97, 99, 105, 116, 121]⟩ capW rfl W hW
  have WI := fun q W hW => rword_any sb g C L hE q ⟨#[105, 116, 101, 109]⟩ itemW rfl W hW
  have IS := fun q W hW => ris_any sb g C L q ⟨#[105, 116, 101, 109]⟩ itemW rfl W hW
  have NB := fun q W hW => rnumber_any sb g C L hE q 0 2147483648 W hW
  have FL := fun q W hW => rfail_any sb g C L q 22 22 rfl W hW
  obtain ⟨i0, hi0, hz01, hz02, hz03⟩ := info_parts infoPr
  have hs0 := h.size
  have hg0 := h.toks.1
  have ha0 : Alt (fun k => (wordR L capW k).nx fun _ k1 => (numR L 0 2147483648 22 k1).nx fun c k2 => (itemsG L [] k2).nx fun l k3 => .ok (⟨0, c, l, [], 0, []⟩ : In) k3) (knapR L k0) (k0, 0) := .inl ⟨rfl, rfl⟩
  obtain ⟨R, hR⟩ : ∃ R, knapR L k0 = R := ⟨_, rfl⟩
  rw [hR] at ha0 ⊢
  have HA0 := Lib.hid ha0
  clear hR ha0
  have HI0 := Lib.hid (And.intro ((iblk_new w (.int .i64 0) (.int .i64 0) (.slice none 0 0) (.slice none 0 0) (.int .i64 0) (.slice none 0 0) 36).next (new_below _ (.cells #[.int .i64 0, .int .i64 0, .slice none 0 0, .slice none 0 0, .int .i64 0, .slice none 0 0] 36)))
    (by have := iblk_new (w.alloc (.cells #[.int .i64 0, .int .i64 0, .slice none 0 0, .slice none 0 0, .int .i64 0, .slice none 0 0] 36)) (.int .i64 0) (.int .i64 0) (.slice none 0 0) (.slice none 0 0) (.int .i64 0) (.slice none 0 0) 36; rw [World.size_alloc] at this; exact this))
  have HS0 := Lib.hid ((h.next (new_below _ (.cells #[.int .i64 0, .int .i64 0, .slice none 0 0, .slice none 0 0, .int .i64 0, .slice none 0 0] 36))).next (new_below _ (.cells #[.int .i64 0, .int .i64 0, .slice none 0 0, .slice none 0 0, .int .i64 0, .slice none 0 0] 36)))
  have HK0 := Lib.hid (((Kb.refl sb w).alloc (.cells #[.int .i64 0, .int .i64 0, .slice none 0 0, .slice none 0 0, .int .i64 0, .slice none 0 0] 36)).alloc (.cells #[.int .i64 0, .int .i64 0, .slice none 0 0, .slice none 0 0, .int .i64 0, .slice none 0 0] 36))
  clear h
  go_enter Tryd.func13, Tryd.ntmps13
  go_wp2_with fail
  with_reducible refine (WD _ _ HS0.out).mono ?_
  rintro r w1 ⟨rfl, h1, kb1⟩
  go_wp2_with fail
  with_reducible refine (NB _ _ h1).mono ?_
  rintro r w2 ⟨c, rfl, hc, h2, kb2⟩
  have kb3 := kb1.trans kb2
  have hb2 := HI0.out.2.kb kb3 (by omega)
  have hres := HI0.out.1.kb kb3 (by omega)
  obtain ⟨b0, b1, b2, b3, b4, b5⟩ := hb2.box
  have f1 := hb2.free 1
  have hRK : RKn sb g C L R w c (.slice none 0 0) [] (nN L 0 2147483648 (nW L capW (k0, 0))) (w2.setCell ⟨w.heap.size + 1, 1, none⟩ (.int .i64 c)) :=
    ⟨hres.other (a := ⟨w.heap.size + 1, 1, none⟩) (show w.heap.size ≠ w.heap.size + 1 by omega) _, heap_setCell_same w2 (w.heap.size + 1) 1 _ _ _ hb2, World.ownsRow_nil _ _ _ _, h2.other (a := ⟨w.heap.size + 1, 1, none⟩) (show w.heap.size + 1 ≠ sb by omega) (show w.heap.size + 1 ≠ g by omega) _, (HK0.out.trans kb3).new (a := ⟨w.heap.size + 1, 1, none⟩) (show w.heap.size ≤ w.heap.size + 1 by omega) _, (HA0.out.word).num hc, .inl (by simp)⟩
  have HRK := Lib.hid hRK
  clear kb3 hb2 hres hRK h1 h2 kb1 kb2 hc HI0 HS0 HK0 HA0 WD
  go_wp2
  go_loopw [4, 5, 6] (fun _ _ _ wr => ∃ (va : Value) (its : List (Int × Int)) (q : Nat × Nat), Hid (RKn sb g C L R w c va its q wr)) (fun _ _ _ wr => leftD sb L.length wr)
  case atStart => exact ⟨_, [], _, HRK⟩
  case round =>
    obtain ⟨va, its, q, hA⟩ := hrel
    have HA := Lib.hid hA.out
    clear hA HRK
    obtain ⟨A, cp, rfl⟩ := own_sliceP HA.out.own
    obtain ⟨k, e⟩ := q
    obtain ⟨c0, c1, c2, _, _⟩ := HA.out.st.cells
    have hs1 := HA.out.st.size
    simp only at c1 c2
    have hklt : k < L.length := HA.out.st.lt
    have HL := Lib.hid HA.out.st.left
    by_cases h0 : e = 0
    · subst h0
      have IS1 := IS (k, 0) wr HA.out.st
      simp only at IS1
      have halt : (itemsG L its k).nx (fun l k3 => .ok (⟨0, c, l, [], 0, []⟩ : In) k3) = R := by
        rcases HA.out.alt with ⟨_, h⟩ | ⟨h, _⟩
        · exact h
        · exact absurd rfl h
      have hlen : its.length ≤ 4096 := by
        rcases HA.out.len with h | ⟨_, h⟩
        · exact h
        · exact absurd rfl h
      rw [itemsG_eq hE its hklt] at halt
      cases hw : isW L itemW k with
      | false =>
        rw [hw] at IS1 halt
        have HRR := Lib.hid (show Rd.ok (⟨0, c, its, [], 0, []⟩ : In) k = R from halt)
        clear halt WI NB FL
        go_wp2_with fail
        with_reducible refine IS1.mono ?_
        rintro r w3 ⟨rfl, b3⟩
        have hbx := HA.out.box.next b3
        have hrs := HA.out.res.next b3
        obtain ⟨d0, d1, d2, d3, d4, d5⟩ := hbx.box
        obtain ⟨e0, e1, e2, e3, e4, e5⟩ := hrs.box
        have f := hrs.free
        have f0 := f 0
        have f1 := f 1
        have f2 := f 2
        have f3 := f 3
        have f4 := f 4
        have f5 := f 5
        have HO := Lib.hid (own_next HA.out.own b3)
        have HS := Lib.hid (HA.out.st.next b3)
        have HK := Lib.hid (HA.out.kb.next b3)
        clear f hbx hrs b3 IS1 c0 c1 c2
        go_wp2
        refine bodyPost_ret (v := inV ⟨0, c, its, [], 0, []⟩ (.slice A its.length cp) (.slice none 0 0) (.slice none 0 0)) (by simp [results, Tryd.results13, go_sem, inV, e0, e1, e2, e3, e4, e5]) rfl ?_
        exact ⟨_, (k, 0), _, _, _, _, _, _, _, _, _, _, _, _, rfl, rfl, HS.out.set6 (by omega) (by omega), HK.out.set6 (Nat.le_refl _), .inl ⟨rfl, _, HRR.out.symm, ins_items (own_set6 HO.out (by omega)) (by omega)⟩⟩
      | true =>
        rw [hw] at IS1 halt
        simp only [if_true] at halt
        by_cases h46 : its.length = 4096
        · have e1 : nF 22 (k, 0) = (k, 22) := rfl
          have hge : (4096 : Int) ≤ (its.length : Int) := by omega
          have FL1 := FL (k, 0)
          rw [e1] at FL1
          have w1 : nW L itemW (k, 22) = (k, 22) := nW_snd (by show (22 : Nat) ≠ 0; omega)
          have n1 : nN L 0 2147483648 (k, 22) = (k, 22) := nN_snd (by show (22 : Nat) ≠ 0; omega)
          have WI1 := WI (k, 22)
          rw [w1] at WI1
          have NB1 := NB (k, 22)
          rw [n1] at NB1
          rw [if_pos h46] at halt
          have hfin : ∀ l : List (Int × Int), Alt (fun k => (itemsG L l k).nx fun l k3 => .ok (⟨0, c, l, [], 0, []⟩ : In) k3) R (k, 22) := fun l => .inr ⟨by show (22 : Nat) ≠ 0; omega, halt.symm⟩
          have HFIN := Lib.hid hfin
          clear halt WI NB FL hfin e1 w1 n1 IS h46
          go_wp2_with fail
          with_reducible refine IS1.mono ?_
          rintro r w3 ⟨rfl, b3⟩
          have hbx := HA.out.box.next b3
          obtain ⟨d0, d1, d2, d3, d4, d5⟩ := hbx.box
          have hS3 := HA.out.st.next b3
          go_wp2_with fail
          with_reducible refine (FL1 _ hS3).mono ?_
          rintro r w4 ⟨rfl, h4, kb4⟩
          go_wp2_with fail
          with_reducible refine (WI1 _ h4).mono ?_
          rintro r w5 ⟨rfl, h5, kb5⟩
          go_wp2_with fail
          with_reducible refine (NB1 _ h5).mono ?_
          rintro r w6 ⟨v, rfl, _, h6, kb6⟩
          go_wp2_with fail
          with_reducible refine (NB1 _ h6).mono ?_
          rintro r w7 ⟨u, rfl, _, h7, kb7⟩
          have HK := Lib.hid (((((Kb.of (r := sb) b3).trans kb4).trans kb5).trans kb6).trans kb7)
          have HS := Lib.hid h7
          have HFA := Lib.hid (HFIN.out (its ++ [(v, u)]))
          have HLE := Lib.hid (show (its ++ [(v, u)]).length ≤ 4096 ∨ ((its ++ [(v, u)]).length ≤ 4097 ∧ ((k, 22) : Nat × Nat).2 ≠ 0) from .inr ⟨by simp; omega, by show (22 : Nat) ≠ 0; omega⟩)
          clear d0 d1 d2 d3 d4 d5 hbx b3 kb4 kb5 kb6 kb7 h4 h5 h6 h7 hS3 IS1 FL1 WI1 NB1 HFIN c0 c1 c2
          obtain ⟨hrs, hbx, hown, hkb⟩ := HA.out.kb' hs0 HK.out
          have HX := Lib.hid (fun g' cap' w8 a b => rkn_step (w := w) (R := R) (c := c) (va := .slice A its.length cp) (its := its) (v := v) (u := u) (q := (k, 22)) hs0 hg0 hrs hbx hown hkb HS.out HFA.out HLE.out (g' := g') (cap' := cap') (w8 := w8) a b)
          have HOW := Lib.hid (hown.alloc (.cells #[.int .i64 v, .int .i64 u] 64))
          obtain ⟨d0, d1, d2, d3, d4, d5⟩ := hbx.box
          have hblt := hbx.lt
          have HBX := Lib.hid hbx
          clear hrs hbx hown hkb
          go_wp2_with (at_builtin; refine wpList_append_lies _ rfl _ _ 33 rfl (w.heap.size + 2) 64 i0 (.agg #[.int .i64 0, .int .i64 0]) 2 16 Tryd.underlying33 hi0 hz01 hz02 hz03 rfl (by decide) _ _ _ rfl HOW.out ⟨w7.heap.size, 0, none⟩ 1 1 [.int .i64 v, .int .i64 u] rfl rfl (World.news_of_block (heap_alloc_new _ _)) (two_oneP _ _) (by omega) (by unfold maxLen; omega) (by omega) (by simp; omega) _ rfl ?_)
          intro g' cap' w8 hown' hgrow hat hlt8
          have HE := Lib.hid (HX.out _ _ _ hown' hgrow)
          have hbk := (HBX.out.next (new_below _ (.cells #[.int .i64 v, .int .i64 u] 64))).keep (hgrow.block (w.heap.size + 1) (by simp; omega) (fun e => by have := (HOW.out.lt _ e.symm).1; omega))
          have ow := hbk.box.c2
          have fw := hbk.free 2
          clear hbk hown' hgrow hat HX HOW HBX d0 d1 d2 d3 d4 d5
          go_wp2
          go_roundw
          case rel => exact ⟨_, its ++ [(v, u)], (k, 22), HE.out⟩
          case measure =>
            have e1 := HE.out.st.left
            have e2 := HL.out
            rw [e1, e2]
            simp
            omega
        · have hlt46 : its.length < 4096 := by omega
          have hge : ¬ (4096 : Int) ≤ (its.length : Int) := by omega
          have w1 : nW L itemW (k, 0) = (k + 1, 0) := by unfold nW; rw [if_pos rfl]; exact if_pos hw
          have WI1 := WI (k, 0)
          rw [w1] at WI1
          have NB1 := NB (k + 1, 0)
          have NB2 := NB (nN L 0 2147483648 (k + 1, 0))
          rw [if_neg h46, nx_assoc] at halt
          have ha1 : Alt (fun j => (numR L 0 2147483648 22 j).nx fun v k2 => (numR L 0 2147483648 22 k2).nx fun u k3 => (itemsG L (its ++ [(v, u)]) k3).nx fun l k3 => .ok (⟨0, c, l, [], 0, []⟩ : In) k3) R (k + 1, 0) := by
            refine .inl ⟨rfl, ?_⟩
            rw [← halt]
            show (numR L 0 2147483648 22 (k + 1)).nx _ = (numR L 0 2147483648 22 (k + 1)).nx _
            congr 1
            funext v k2
            exact (nx_assoc _ _ _).symm
          have hk1l := isW_goes hE hw
          have HA1 := Lib.hid ha1
          have HQ := Lib.hid (show k + 1 ≤ (nN L 0 2147483648 (nN L 0 2147483648 (k + 1, 0))).1 from Nat.le_trans (nN_fst hE (q := (k + 1, 0)) hk1l) (nN_fst2 hE hk1l))
          clear halt WI NB FL w1 IS h46 ha1 hk1l
          go_wp2_with fail
          with_reducible refine IS1.mono ?_
          rintro r w3 ⟨rfl, b3⟩
          have hbx := HA.out.box.next b3
          obtain ⟨d0, d1, d2, d3, d4, d5⟩ := hbx.box
          have hS3 := HA.out.st.next b3
          go_wp2_with fail
          with_reducible refine (WI1 _ hS3).mono ?_
          rintro r w5 ⟨rfl, h5, kb5⟩
          go_wp2_with fail
          with_reducible refine (NB1 _ h5).mono ?_
          rintro r w6 ⟨v, rfl, hv, h6, kb6⟩
          go_wp2_with fail
          with_reducible refine (NB2 _ h6).mono ?_
          rintro r w7 ⟨u, rfl, hu, h7, kb7⟩
          have HK := Lib.hid ((((Kb.of (r := sb) b3).trans kb5).trans kb6).trans kb7)
          have HS := Lib.hid h7
          have HFA := Lib.hid ((HA1.out.num (fun m k' _ hm => by first | exact hv m k' trivial hm | exact hv m k' rfl hm)).num hu)
          have HLE := Lib.hid (show (its ++ [(v, u)]).length ≤ 4096 ∨ ((its ++ [(v, u)]).length ≤ 4097 ∧ (nN L 0 2147483648 (nN L 0 2147483648 (k + 1, 0))).2 ≠ 0) from .inl (by simp; omega))
          clear d0 d1 d2 d3 d4 d5 hbx b3 kb5 kb6 kb7 h5 h6 h7 hS3 IS1 WI1 NB1 NB2 HA1 c0 c1 c2 hv hu
          generalize nN L 0 2147483648 (nN L 0 2147483648 (k + 1, 0)) = qf at *
          obtain ⟨hrs, hbx, hown, hkb⟩ := HA.out.kb' hs0 HK.out
          have HX := Lib.hid (fun g' cap' w8 a b => rkn_step (w := w) (R := R) (c := c) (va := .slice A its.length cp) (its := its) (v := v) (u := u) (q := qf) hs0 hg0 hrs hbx hown hkb HS.out HFA.out HLE.out (g' := g') (cap' := cap') (w8 := w8) a b)
          have HOW := Lib.hid (hown.alloc (.cells #[.int .i64 v, .int .i64 u] 64))
          obtain ⟨d0, d1, d2, d3, d4, d5⟩ := hbx.box
          have hblt := hbx.lt
          have HBX := Lib.hid hbx
          clear hrs hbx hown hkb
          go_wp2_with (at_builtin; refine wpList_append_lies _ rfl _ _ 33 rfl (w.heap.size + 2) 64 i0 (.agg #[.int .i64 0, .int .i64 0]) 2 16 Tryd.underlying33 hi0 hz01 hz02 hz03 rfl (by decide) _ _ _ rfl HOW.out ⟨w7.heap.size, 0, none⟩ 1 1 [.int .i64 v, .int .i64 u] rfl rfl (World.news_of_block (heap_alloc_new _ _)) (two_oneP _ _) (by omega) (by unfold maxLen; omega) (by omega) (by simp; omega) _ rfl ?_)
          intro g' cap' w8 hown' hgrow hat hlt8
          have HE := Lib.hid (HX.out _ _ _ hown' hgrow)
          have hbk := (HBX.out.next (new_below _ (.cells #[.int .i64 v, .int .i64 u] 64))).keep (hgrow.block (w.heap.size + 1) (by simp; omega) (fun e => by have := (HOW.out.lt _ e.symm).1; omega))
          have ow := hbk.box.c2
          have fw := hbk.free 2
          clear hbk hown' hgrow hat HX HOW HBX d0 d1 d2 d3 d4 d5
          go_wp2
          go_roundw
          case rel => exact ⟨_, its ++ [(v, u)], qf, HE.out⟩
          case measure =>
            have e1 := HE.out.st.left
            have e2 := HL.out
            have e3 := HQ.out
            have e4 := HE.out.st.lt
            rw [e1, e2]
            simp only [if_true]
            split <;> omega
    · have he : ¬ (e : Int) = 0 := by omega
      have HRR := Lib.hid (show R = .no k e by
        rcases HA.out.alt with ⟨h, _⟩ | ⟨_, h⟩
        · exact absurd h h0
        · exact h)
      obtain ⟨d0, d1, d2, d3, d4, d5⟩ := HA.out.box.box
      obtain ⟨e0, e1, e2, e3, e4, e5⟩ := HA.out.res.box
      have f := HA.out.res.free
      have f0 := f 0
      have f1 := f 1
      have f2 := f 2
      have f3 := f 3
      have f4 := f 4
      have f5 := f 5
      have hz := HA.out.res.lt
      clear f WI NB FL IS
      go_wp2
      refine bodyPost_ret (v := inV ⟨0, c, its, [], 0, []⟩ (.slice A its.length cp) (.slice none 0 0) (.slice none 0 0)) (by simp [results, Tryd.results13, go_sem, inV, e0, e1, e2, e3, e4, e5]) rfl ?_
      exact ⟨_, (k, e), _, _, _, _, _, _, _, _, _, _, _, _, rfl, rfl, HA.out.st.set6 (by omega) (by omega), HA.out.kb.set6 (Nat.le_refl _), .inr ⟨h0, HRR.out⟩⟩
end Go.Proofs.YtbadingdklenhaaDoor
