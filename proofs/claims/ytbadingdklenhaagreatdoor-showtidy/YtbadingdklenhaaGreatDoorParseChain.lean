/-
  A region 'i.f = append(i.f, T{x, call()})' that draws its order: what stands in memory at every stage of it.
-/
import Derived.Test.YtbadingdklenhaaGreatDoorParseKit
import Derived.Test.YtbadingdklenhaaGreatDoorRegionKit2
namespace Go.Proofs.YtbadingdklenhaaGreatDoor
set_option maxRecDepth 100000
open Go.RowKit

/-- A call's value, and the place behind it. -/
def rdV1 (N : Rd Int) : Int := match N with
  | .ok u _ => u
  | .no _ _ => 0
def rdK {α : Type} (N : Rd α) : Nat := match N with
  | .ok _ k => k
  | .no _ _ => 0
def Rd.isOk {α : Type} (N : Rd α) : Prop := ∃ u k, N = .ok u k
/-- c: the call; m: the literal's row; a: the append; s: the store; l: the load; bl: the literal's value. -/
structure Ch (c m a s l bl dm da : Nat) (A0 A1 : World → Prop) (A2 A3 : Value → World → Prop) (A4 : World → Prop) (e : Nat → Bool) (t : Nat → Value) (wr : World) : Prop where
  mk ::
  p0 : e c = false → A0 wr
  p1 : e c = true → e m = false → A1 wr
  p2 : e m = true → e a = false → A2 (t dm) wr
  p3 : e a = true → e s = false → A3 (t da) wr
  p4 : e s = true → A4 wr
  m1 : e m = true → e c = true
  a1 : e a = true → e m = true ∧ e l = true
  s1 : e s = true → e a = true
  b1 : e bl = true → e c = true
namespace Ch
variable {c m a s l bl dm da : Nat} {A0 A1 : World → Prop} {A2 A3 : Value → World → Prop} {A4 : World → Prop} {e : Nat → Bool} {t : Nat → Value} {wr w' : World}
theorem start (t : Nat → Value) (h : A0 wr) : Ch c m a s l bl dm da A0 A1 A2 A3 A4 (fun _ => false) t wr :=
  ⟨fun _ => h, (fun q => by cases q), (fun q => by cases q), (fun q => by cases q), (fun q => by cases q), (fun q => by cases q), (fun q => by cases q), (fun q => by cases q), (fun q => by cases q)⟩
theorem of (h : Ch c m a s l bl dm da A0 A1 A2 A3 A4 e t wr) {i d : Nat} {v : Value} (h1 : c ≠ i) (h2 : m ≠ i) (h3 : a ≠ i) (h4 : s ≠ i) (h5 : dm ≠ d) (h6 : da ≠ d) (hb : bl = i → e c = true) : Ch c m a s l bl dm da A0 A1 A2 A3 A4 (upd e i true) (upd t d v) wr := by
  have u1 : upd e i true c = e c := upd_ne _ _ h1
  have u2 : upd e i true m = e m := upd_ne _ _ h2
  have u3 : upd e i true a = e a := upd_ne _ _ h3
  have u4 : upd e i true s = e s := upd_ne _ _ h4
  have u5 : upd t d v dm = t dm := upd_ne _ _ h5
  have u6 : upd t d v da = t da := upd_ne _ _ h6
  refine ⟨?_, ?_, ?_, ?_, ?_, ?_, fun q => ?_, ?_, fun q => ?_⟩
  · rw [u1]; exact h.p0
  · rw [u1, u2]; exact h.p1
  · rw [u2, u3, u5]; exact h.p2
  · rw [u3, u4, u6]; exact h.p3
  · rw [u4]; exact h.p4
  · rw [u1, u2]; exact h.m1
  · rw [u3] at q
    rw [u2]
    refine ⟨(h.a1 q).1, ?_⟩
    by_cases hl : l = i
    · rw [hl, upd_at]
    · rw [upd_ne _ _ hl]; exact (h.a1 q).2
  · rw [u3, u4]; exact h.s1
  · rw [u1]
    by_cases hl : bl = i
    · exact hb hl
    · rw [upd_ne _ _ hl] at q; exact h.b1 q
theorem notm (h : Ch c m a s l bl dm da A0 A1 A2 A3 A4 e t wr) (hc : e c = false) : e m = false := by
  cases q : e m with
  | false => rfl
  | true => rw [h.m1 q] at hc; cases hc
theorem nota (h : Ch c m a s l bl dm da A0 A1 A2 A3 A4 e t wr) (hm : e m = false) : e a = false := by
  cases q : e a with
  | false => rfl
  | true => rw [(h.a1 q).1] at hm; cases hm
theorem nots (h : Ch c m a s l bl dm da A0 A1 A2 A3 A4 e t wr) (ha : e a = false) : e s = false := by
  cases q : e s with
  | false => rfl
  | true => rw [h.s1 q] at ha; cases ha
/-- What is there while the list is loaded. -/
theorem load (h : Ch c m a s l bl dm da A0 A1 A2 A3 A4 e t wr) (hl : e l = false) {B : World → Prop} (b0 : ∀ w, A0 w → B w) (b1 : ∀ w, A1 w → B w) (b2 : ∀ v w, A2 v w → B w) : B wr := by
  have ha : e a = false := by
    cases q : e a with
    | false => rfl
    | true => rw [(h.a1 q).2] at hl; cases hl
  cases hc : e c with
  | false => exact b0 _ (h.p0 hc)
  | true =>
    cases hm : e m with
    | false => exact b1 _ (h.p1 hc hm)
    | true => exact b2 _ _ (h.p2 hm ha)
theorem call (h : Ch c m a s l bl dm da A0 A1 A2 A3 A4 e t wr) (hc : e c = false) {d : Nat} {v : Value} (h1 : m ≠ c) (h2 : a ≠ c) (h3 : s ≠ c) (hA : A1 w') : Ch c m a s l bl dm da A0 A1 A2 A3 A4 (upd e c true) (upd t d v) w' := by
  have qm := h.notm hc
  have qa := h.nota qm
  have qs := h.nots qa
  refine ⟨fun q => ?_, fun _ _ => hA, fun q => ?_, fun q => ?_, fun q => ?_, fun _ => upd_at _ _ _, fun q => ?_, fun q => ?_, fun _ => upd_at _ _ _⟩
  · rw [upd_at] at q; cases q
  · rw [upd_ne _ _ h1, qm] at q; cases q
  · rw [upd_ne _ _ h2, qa] at q; cases q
  · rw [upd_ne _ _ h3, qs] at q; cases q
  · rw [upd_ne _ _ h2, qa] at q; cases q
  · rw [upd_ne _ _ h3, qs] at q; cases q
theorem make (h : Ch c m a s l bl dm da A0 A1 A2 A3 A4 e t wr) (hm : e m = false) (dc : e c = true) {v : Value} (h1 : c ≠ m) (h2 : a ≠ m) (h3 : s ≠ m) (hA : A2 v w') : Ch c m a s l bl dm da A0 A1 A2 A3 A4 (upd e m true) (upd t dm v) w' := by
  have qa := h.nota hm
  have qs := h.nots qa
  refine ⟨fun q => ?_, fun _ q => ?_, fun _ _ => by rw [upd_at]; exact hA, fun q => ?_, fun q => ?_, fun _ => by rw [upd_ne _ _ h1]; exact dc, fun q => ?_, fun q => ?_, fun _ => by rw [upd_ne _ _ h1]; exact dc⟩
  · rw [upd_ne _ _ h1, dc] at q; cases q
  · rw [upd_at] at q; cases q
  · rw [upd_ne _ _ h2, qa] at q; cases q
  · rw [upd_ne _ _ h3, qs] at q; cases q
  · rw [upd_ne _ _ h2, qa] at q; cases q
  · rw [upd_ne _ _ h3, qs] at q; cases q
theorem app (h : Ch c m a s l bl dm da A0 A1 A2 A3 A4 e t wr) (ha : e a = false) (dm' : e m = true) (dl : e l = true) {v : Value} (h1 : c ≠ a) (h2 : m ≠ a) (h3 : s ≠ a) (h4 : l ≠ a) (hA : A3 v w') : Ch c m a s l bl dm da A0 A1 A2 A3 A4 (upd e a true) (upd t da v) w' := by
  have qs := h.nots ha
  have dc := h.m1 dm'
  refine ⟨fun q => ?_, fun _ q => ?_, fun _ q => ?_, fun _ _ => by rw [upd_at]; exact hA, fun q => ?_, fun _ => by rw [upd_ne _ _ h1]; exact dc, fun _ => by rw [upd_ne _ _ h2, upd_ne _ _ h4]; exact ⟨dm', dl⟩, fun q => ?_, fun _ => by rw [upd_ne _ _ h1]; exact dc⟩
  · rw [upd_ne _ _ h1, dc] at q; cases q
  · rw [upd_ne _ _ h2, dm'] at q; cases q
  · rw [upd_at] at q; cases q
  · rw [upd_ne _ _ h3, qs] at q; cases q
  · rw [upd_ne _ _ h3, qs] at q; cases q
theorem st (h : Ch c m a s l bl dm da A0 A1 A2 A3 A4 e t wr) (d : e a = true) (h1 : c ≠ s) (h2 : m ≠ s) (h3 : a ≠ s) (h4 : l ≠ s) (hA : A4 w') : Ch c m a s l bl dm da A0 A1 A2 A3 A4 (upd e s true) t w' := by
  obtain ⟨dm', dl⟩ := h.a1 d
  have dc := h.m1 dm'
  refine ⟨fun q => ?_, fun _ q => ?_, fun _ q => ?_, fun _ q => ?_, fun _ => hA, fun _ => by rw [upd_ne _ _ h1]; exact dc, fun _ => by rw [upd_ne _ _ h2, upd_ne _ _ h4]; exact ⟨dm', dl⟩, fun _ => by rw [upd_ne _ _ h3]; exact d, fun _ => by rw [upd_ne _ _ h1]; exact dc⟩
  · rw [upd_ne _ _ h1, dc] at q; cases q
  · rw [upd_ne _ _ h2, dm'] at q; cases q
  · rw [upd_ne _ _ h3, d] at q; cases q
  · rw [upd_at] at q; cases q
end Ch
/-- A region 'i.f[k] = call()': c: the call, dc: its slot; s: the store. -/
structure Cs (c s l1 l2 dc : Nat) (A0 : World → Prop) (A1 : Value → World → Prop) (A2 : World → Prop) (e : Nat → Bool) (t : Nat → Value) (wr : World) : Prop where
  mk ::
  p0 : e c = false → A0 wr
  p1 : e c = true → e s = false → A1 (t dc) wr
  p2 : e s = true → A2 wr
  s1 : e s = true → e c = true ∧ e l1 = true ∧ e l2 = true
namespace Cs
variable {c s l1 l2 dc : Nat} {A0 : World → Prop} {A1 : Value → World → Prop} {A2 : World → Prop} {e : Nat → Bool} {t : Nat → Value} {wr w' : World}
theorem start (t : Nat → Value) (h : A0 wr) : Cs c s l1 l2 dc A0 A1 A2 (fun _ => false) t wr :=
  ⟨fun _ => h, (fun q => by cases q), (fun q => by cases q), (fun q => by cases q)⟩
theorem of (h : Cs c s l1 l2 dc A0 A1 A2 e t wr) {i d : Nat} {v : Value} (h1 : c ≠ i) (h2 : s ≠ i) (h3 : dc ≠ d) : Cs c s l1 l2 dc A0 A1 A2 (upd e i true) (upd t d v) wr := by
  have u1 : upd e i true c = e c := upd_ne _ _ h1
  have u2 : upd e i true s = e s := upd_ne _ _ h2
  have u3 : upd t d v dc = t dc := upd_ne _ _ h3
  have w : ∀ l, e l = true → upd e i true l = true := fun l q => by
    by_cases hl : l = i
    · rw [hl, upd_at]
    · rw [upd_ne _ _ hl]; exact q
  refine ⟨?_, ?_, ?_, fun q => ?_⟩
  · rw [u1]; exact h.p0
  · rw [u1, u2, u3]; exact h.p1
  · rw [u2]; exact h.p2
  · rw [u2] at q
    obtain ⟨a, b, c⟩ := h.s1 q
    exact ⟨w _ a, w _ b, w _ c⟩
theorem nots (h : Cs c s l1 l2 dc A0 A1 A2 e t wr) (hc : e c = false) : e s = false := by
  cases q : e s with
  | false => rfl
  | true => rw [(h.s1 q).1] at hc; cases hc
theorem load (h : Cs c s l1 l2 dc A0 A1 A2 e t wr) {l : Nat} (hl : e l = false) (hx : l = l1 ∨ l = l2) {B : World → Prop} (b0 : ∀ w, A0 w → B w) (b1 : ∀ v w, A1 v w → B w) : B wr := by
  have hs : e s = false := by
    cases q : e s with
    | false => rfl
    | true =>
      obtain ⟨_, a, b⟩ := h.s1 q
      rcases hx with rfl | rfl
      · rw [a] at hl; cases hl
      · rw [b] at hl; cases hl
  cases hc : e c with
  | false => exact b0 _ (h.p0 hc)
  | true => exact b1 _ _ (h.p1 hc hs)
theorem call (h : Cs c s l1 l2 dc A0 A1 A2 e t wr) (hc : e c = false) {v : Value} (h1 : s ≠ c) (hA : A1 v w') : Cs c s l1 l2 dc A0 A1 A2 (upd e c true) (upd t dc v) w' := by
  have qs := h.nots hc
  refine ⟨fun q => ?_, fun _ _ => by rw [upd_at]; exact hA, fun q => ?_, fun q => ?_⟩
  · rw [upd_at] at q; cases q
  · rw [upd_ne _ _ h1, qs] at q; cases q
  · rw [upd_ne _ _ h1, qs] at q; cases q
theorem st (_ : Cs c s l1 l2 dc A0 A1 A2 e t wr) (d : e c = true) (d1 : e l1 = true) (d2 : e l2 = true) (h1 : c ≠ s) (h2 : l1 ≠ s) (h3 : l2 ≠ s) (hA : A2 w') : Cs c s l1 l2 dc A0 A1 A2 (upd e s true) t w' := by
  refine ⟨fun q => ?_, fun _ q => ?_, fun _ => hA, fun _ => by rw [upd_ne _ _ h1, upd_ne _ _ h2, upd_ne _ _ h3]; exact ⟨d, d1, d2⟩⟩
  · rw [upd_ne _ _ h1, d] at q; cases q
  · rw [upd_at] at q; cases q
end Cs
end Go.Proofs.YtbadingdklenhaaGreatDoor
