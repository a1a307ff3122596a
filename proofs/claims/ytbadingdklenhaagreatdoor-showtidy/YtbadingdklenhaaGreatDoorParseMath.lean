/-
  What a text's tokens are read as (layer 10), as plain data: an instance, or the token at which it fails and why. No program here.
-/
import Derived.Test.YtbadingdklenhaaGreatDoorInstMath
import Derived.Test.YtbadingdklenhaaGreatDoorLexLineMath
namespace Go.Proofs.YtbadingdklenhaaGreatDoor
set_option maxRecDepth 100000

/-- What is read, and the place behind it; or the place at which it fails, and an error. -/
inductive Rd (α : Type) where
  | ok : α → Nat → Rd α
  | no : Nat → Nat → Rd α
def Rd.nx {α β : Type} (r : Rd α) (f : α → Nat → Rd β) : Rd β := match r with
  | .ok a k => f a k
  | .no j e => .no j e

def kW : List UInt8 := [107, 110, 97, 112, 115, 97, 99, 107]
def aW : List UInt8 := [97, 115, 115, 105, 103, 110, 109, 101, 110, 116]
def tW : List UInt8 := [116, 115, 112]
def cW : List UInt8 := [99, 111, 118, 101, 114]
def capW : List UInt8 := [99, 97, 112, 97, 99, 105, 116, 121]
def itemW : List UInt8 := [105, 116, 101, 109]
def rowW : List UInt8 := [114, 111, 119]
def setW : List UInt8 := [115, 101, 116]

section
variable (L : List Tk)
/-- A token of a kind. -/
def tokR (c k : Nat) : Rd Tk := match L[k]? with
  | none => .no k 4
  | some x => if x.kind = c then .ok x (k + 1) else .no k 4
/-- A number from lo to hi, or else the error. -/
def numR (lo hi : Int) (e k : Nat) : Rd Int := match L[k]? with
  | none => .no k 4
  | some x => if x.kind = 1 then (if lo ≤ x.n ∧ x.n ≤ hi then .ok x.n (k + 1) else .no k e) else .no k 4
/-- Is that word there? -/
def isW (t : List UInt8) (k : Nat) : Bool := match L[k]? with
  | none => false
  | some x => decide (x.kind = 0) && decide (x.text = t)
def wordR (t : List UInt8) (k : Nat) : Rd Unit := if isW L t k = true then .ok () (k + 1) else .no k 4
def isN (k : Nat) : Bool := match L[k]? with
  | none => false
  | some x => decide (x.kind = 1)

def itemsR : Nat → List (Int × Int) → Nat → Rd (List (Int × Int))
  | 0, _, k => .no k 4
  | f + 1, acc, k => if isW L itemW k = true then (if acc.length = 4096 then .no k 22 else
      (numR L 0 2147483648 22 (k + 1)).nx fun v k2 => (numR L 0 2147483648 22 k2).nx fun u k3 => itemsR f (acc ++ [(v, u)]) k3) else .ok acc k
def knapR (k : Nat) : Rd In :=
  (wordR L capW k).nx fun _ k1 => (numR L 0 2147483648 22 k1).nx fun c k2 => (itemsR L (L.length + 1 - k2) [] k2).nx fun l k3 => .ok ⟨0, c, l, [], 0, []⟩ k3
/-- So many numbers more, in a row that has its own place at own. -/
def cellsR (own : Nat) (hollow : Bool) : Nat → List Int → Nat → Rd (List Int)
  | 0, acc, k => .ok acc k
  | f + 1, acc, k => (numR L (-2147483648) 2147483648 22 k).nx fun x k1 => if hollow = true ∧ acc.length = own ∧ x ≠ 0 then .no k 4 else cellsR own hollow f (acc ++ [x]) k1
def rowR (n own : Nat) (hollow : Bool) (k : Nat) : Rd (List Int) := (wordR L rowW k).nx fun _ k1 => cellsR L own hollow n [] k1
def rowsR (n : Nat) (hollow : Bool) : Nat → List (List Int) → Nat → Rd (List (List Int))
  | 0, acc, k => .ok acc k
  | f + 1, acc, k => (rowR L n acc.length hollow k).nx fun r k1 => rowsR n hollow f (acc ++ [r]) k1
def squareR (kind : Int) (k : Nat) : Rd In :=
  (numR L 1 64 22 k).nx fun n k1 => (rowsR L n.toNat (decide (kind = 2)) n.toNat [] k1).nx fun R k2 => .ok ⟨kind, 0, [], R, 0, []⟩ k2
def elemsR (size : Int) : Nat → Int → List Int → Nat → Rd (List Int)
  | 0, _, _, k => .no k 4
  | f + 1, least, acc, k => if isN L k = true then ((numR L least (size - 1) 4 k).nx fun x k1 => elemsR size f (x + 1) (acc ++ [x]) k1) else .ok acc k
def setsR (size : Int) : Nat → List (Int × List Int) → Nat → Rd (List (Int × List Int))
  | 0, _, k => .no k 4
  | f + 1, acc, k => if isW L setW k = true then (if acc.length = 4096 then .no k 22 else
      (numR L 0 2147483648 22 (k + 1)).nx fun c k2 => (tokR L 2 k2).nx fun _ k3 => (elemsR L size (L.length + 1 - k3) 0 [] k3).nx fun l k4 => setsR size f (acc ++ [(c, l)]) k4) else .ok acc k
def coverR (k : Nat) : Rd In :=
  (numR L 0 4096 22 k).nx fun z k1 => (setsR L z (L.length + 1 - k1) [] k1).nx fun S k2 => .ok ⟨3, 0, [], [], z, S⟩ k2
/-- An instance, but for the End. -/
def instR : Rd In :=
  if isW L kW 0 = true then knapR L 1 else if isW L aW 0 = true then squareR L 1 1 else if isW L tW 0 = true then squareR L 2 1 else if isW L cW 0 = true then coverR L 1 else .no 0 4
def wholeR : Rd In := (instR L).nx fun I k => (tokR L 3 k).nx fun _ k1 => .ok I k1
end

/-- What Parse tells. -/
structure Ps where
  inst : In
  line : Nat
  col : Nat
  err : Nat
def zIn : In := ⟨0, 0, [], [], 0, []⟩
def psOf (L : List Tk) : Rd In → Ps
  | .ok I _ => ⟨I, 0, 0, 0⟩
  | .no j e => ⟨zIn, ((L[j]?).map (·.line)).getD 0, ((L[j]?).map (·.col)).getD 0, e⟩
def parseL (l : List UInt8) : Ps := if (lexP l).err = 0 then psOf (lexP l).toks (wholeR (lexP l).toks) else ⟨zIn, (lexP l).line, (lexP l).col, (lexP l).err⟩

/-! ### where it goes on -/
/-- A list of tokens that ends with the End, which is nowhere else. -/
structure EndL (L : List Tk) : Prop where
  mk ::
  pos : 0 < L.length
  last : ∀ k x, L[k]? = some x → k + 1 = L.length → x.kind = 3
  first : ∀ k x, L[k]? = some x → k + 1 < L.length → x.kind ≠ 3
def Rd.Fit {α : Type} (n k : Nat) : Rd α → Prop
  | .ok _ k' => k ≤ k' ∧ k' < n
  | .no j e => k ≤ j ∧ j < n ∧ (e = 4 ∨ e = 22)
theorem Rd.Fit.le {α : Type} {n k k' : Nat} {r : Rd α} (h : r.Fit n k') (hk : k ≤ k') : r.Fit n k := by
  cases r with
  | ok a j => exact ⟨Nat.le_trans hk h.1, h.2⟩
  | no j e => exact ⟨Nat.le_trans hk h.1, h.2⟩
theorem Rd.Fit.nx {α β : Type} {n k : Nat} {r : Rd α} {f : α → Nat → Rd β} (h : r.Fit n k) (hf : ∀ a k', r = .ok a k' → k ≤ k' → k' < n → (f a k').Fit n k') : (r.nx f).Fit n k := by
  cases r with
  | ok a j => exact (hf a j rfl h.1 h.2).le h.1
  | no j e => exact h
theorem Rd.Fit.nx' {α β : Type} {n k : Nat} {r : Rd α} {f : α → Nat → Rd β} (h : r.Fit n k) (hf : ∀ a k', r = .ok a k' → k ≤ k' → k' < n → (f a k').Fit n k) : (r.nx f).Fit n k := by
  cases r with
  | ok a j => exact hf a j rfl h.1 h.2
  | no j e => exact h
section
variable {L : List Tk}
theorem EndL.goes (h : EndL L) {k : Nat} {x : Tk} (hx : L[k]? = some x) (h3 : x.kind ≠ 3) : k + 1 < L.length := by
  have hk := (List.getElem?_eq_some_iff.1 hx).1
  rcases Nat.lt_or_ge (k + 1) L.length with h1 | h1
  · exact h1
  · exact absurd (h.last k x hx (by omega)) h3
theorem EndL.at (_h : EndL L) {k : Nat} (hk : k < L.length) : ∃ x, L[k]? = some x := ⟨L[k], List.getElem?_eq_getElem hk⟩
theorem tokR_fit (h : EndL L) {c k : Nat} (hk : k < L.length) (hc : c ≠ 3) : (tokR L c k).Fit L.length k := by
  obtain ⟨x, hx⟩ := h.at hk
  unfold tokR
  rw [hx]
  simp only
  split
  · exact ⟨by omega, h.goes hx (by omega)⟩
  · exact ⟨Nat.le_refl _, hk, .inl rfl⟩
theorem numR_fit (h : EndL L) {lo hi : Int} {e k : Nat} (hk : k < L.length) (he : e = 4 ∨ e = 22) : (numR L lo hi e k).Fit L.length k := by
  obtain ⟨x, hx⟩ := h.at hk
  unfold numR
  rw [hx]
  simp only
  split
  · split
    · exact ⟨by omega, h.goes hx (by omega)⟩
    · exact ⟨Nat.le_refl _, hk, he⟩
  · exact ⟨Nat.le_refl _, hk, .inl rfl⟩
theorem isW_at {t : List UInt8} {k : Nat} (h : isW L t k = true) : ∃ x, L[k]? = some x ∧ x.kind = 0 ∧ x.text = t := by
  unfold isW at h
  split at h
  · cases h
  · rename_i x hx
    simp only [Bool.and_eq_true, decide_eq_true_eq] at h
    exact ⟨x, hx, h.1, h.2⟩
theorem isN_at {k : Nat} (h : isN L k = true) : ∃ x, L[k]? = some x ∧ x.kind = 1 := by
  unfold isN at h
  split at h
  · cases h
  · rename_i x hx
    exact ⟨x, hx, by simpa using h⟩
theorem isW_goes (h : EndL L) {t : List UInt8} {k : Nat} (hw : isW L t k = true) : k + 1 < L.length := by
  obtain ⟨x, hx, h0, _⟩ := isW_at hw
  exact h.goes hx (by omega)
theorem wordR_fit (h : EndL L) {t : List UInt8} {k : Nat} (hk : k < L.length) : (wordR L t k).Fit L.length k := by
  unfold wordR
  split
  · rename_i hw; exact ⟨by omega, isW_goes h hw⟩
  · exact ⟨Nat.le_refl _, hk, .inl rfl⟩
theorem numR_ok {lo hi : Int} {e k : Nat} {x : Int} {k' : Nat} (h : numR L lo hi e k = .ok x k') : ∃ t, L[k]? = some t ∧ t.kind = 1 ∧ t.n = x ∧ lo ≤ x ∧ x ≤ hi ∧ k' = k + 1 := by
  unfold numR at h
  split at h
  · cases h
  · rename_i t ht
    split at h
    · split at h
      · rename_i h1 h2
        injection h with e1 e2
        subst e1
        exact ⟨t, ht, h1, rfl, h2.1, h2.2, e2.symm⟩
      · cases h
    · cases h
theorem nx_ok {α β : Type} {r : Rd α} {f : α → Nat → Rd β} {b : β} {j : Nat} (h : r.nx f = .ok b j) : ∃ a k, r = .ok a k ∧ f a k = .ok b j := by
  cases r with
  | ok a k => exact ⟨a, k, rfl, h⟩
  | no j e => cases h

/-! ### loops -/
theorem itemsR_fit (h : EndL L) : ∀ (f : Nat) (acc : List (Int × Int)) (k : Nat), k < L.length → L.length + 1 - k ≤ f → (itemsR L f acc k).Fit L.length k := by
  intro f
  induction f with
  | zero => intro acc k hk hf; omega
  | succ f ih =>
    intro acc k hk hf
    unfold itemsR
    split
    · rename_i hw
      split
      · exact ⟨Nat.le_refl _, hk, .inr rfl⟩
      · have hg := isW_goes h hw
        refine Rd.Fit.le (k' := k + 1) (Rd.Fit.nx (numR_fit h hg (.inr rfl)) fun v k2 hv h2 h3 => Rd.Fit.nx (numR_fit h h3 (.inr rfl)) fun u k3 hu h4 h5 => ?_) (by omega)
        obtain ⟨_, _, _, _, _, _, e1⟩ := numR_ok hu
        exact ih _ k3 h5 (by omega)
    · exact ⟨Nat.le_refl _, hk⟩
theorem itemsR_more (h : EndL L) : ∀ (f g : Nat) (acc : List (Int × Int)) (k : Nat), k < L.length → L.length + 1 - k ≤ f → L.length + 1 - k ≤ g → itemsR L f acc k = itemsR L g acc k := by
  intro f
  induction f with
  | zero => intro g acc k hk hf; omega
  | succ f ih =>
    intro g acc k hk hf hg
    cases g with
    | zero => omega
    | succ g =>
      unfold itemsR
      split
      · rename_i hw
        split
        · rfl
        · have hg2 := isW_goes h hw
          have h1 := numR_fit h (lo := 0) (hi := 2147483648) hg2 (.inr rfl : (22 : Nat) = 4 ∨ (22 : Nat) = 22)
          generalize numR L 0 2147483648 22 (k + 1) = r1 at *
          cases r1 with
          | no j e => rfl
          | ok v k2 =>
            have h2 := numR_fit h (lo := 0) (hi := 2147483648) h1.2 (.inr rfl : (22 : Nat) = 4 ∨ (22 : Nat) = 22)
            simp only [Rd.nx]
            generalize numR L 0 2147483648 22 k2 = r2 at *
            cases r2 with
            | no j e => rfl
            | ok u k3 => exact ih g _ k3 h2.2 (by have := h1.1; have := h2.1; omega) (by have := h1.1; have := h2.1; omega)
      · rfl
def itemsG (L : List Tk) (acc : List (Int × Int)) (k : Nat) : Rd (List (Int × Int)) := itemsR L (L.length + 1 - k) acc k
theorem itemsG_eq (h : EndL L) (acc : List (Int × Int)) {k : Nat} (hk : k < L.length) : itemsG L acc k = if isW L itemW k = true then (if acc.length = 4096 then .no k 22 else
      (numR L 0 2147483648 22 (k + 1)).nx fun v k2 => (numR L 0 2147483648 22 k2).nx fun u k3 => itemsG L (acc ++ [(v, u)]) k3) else .ok acc k := by
  have e : L.length + 1 - k = L.length - k + 1 := by omega
  conv => lhs; unfold itemsG; rw [e]; unfold itemsR
  split
  · rename_i hw
    split
    · rfl
    · have hg2 := isW_goes h hw
      have h1 := numR_fit h (lo := 0) (hi := 2147483648) hg2 (.inr rfl : (22 : Nat) = 4 ∨ (22 : Nat) = 22)
      generalize numR L 0 2147483648 22 (k + 1) = r1 at *
      cases r1 with
      | no j e => rfl
      | ok v k2 =>
        have h2 := numR_fit h (lo := 0) (hi := 2147483648) h1.2 (.inr rfl : (22 : Nat) = 4 ∨ (22 : Nat) = 22)
        simp only [Rd.nx]
        generalize numR L 0 2147483648 22 k2 = r2 at *
        cases r2 with
        | no j e => rfl
        | ok u k3 => exact itemsR_more h _ _ _ k3 h2.2 (by have := h1.1; have := h2.1; omega) (by omega)
  · rfl
theorem elemsR_fit (h : EndL L) (size : Int) : ∀ (f : Nat) (least : Int) (acc : List Int) (k : Nat), k < L.length → L.length + 1 - k ≤ f → (elemsR L size f least acc k).Fit L.length k := by
  intro f
  induction f with
  | zero => intro least acc k hk hf; omega
  | succ f ih =>
    intro least acc k hk hf
    unfold elemsR
    split
    · refine Rd.Fit.nx (numR_fit h hk (.inl rfl)) fun v k2 hv h2 h3 => ?_
      obtain ⟨_, _, _, _, _, _, e1⟩ := numR_ok hv
      exact ih _ _ k2 h3 (by omega)
    · exact ⟨Nat.le_refl _, hk⟩
theorem elemsR_more (h : EndL L) (size : Int) : ∀ (f g : Nat) (least : Int) (acc : List Int) (k : Nat), k < L.length → L.length + 1 - k ≤ f → L.length + 1 - k ≤ g → elemsR L size f least acc k = elemsR L size g least acc k := by
  intro f
  induction f with
  | zero => intro g least acc k hk hf; omega
  | succ f ih =>
    intro g least acc k hk hf hg
    cases g with
    | zero => omega
    | succ g =>
      unfold elemsR
      split
      · have h1 := numR_fit h (lo := least) (hi := size - 1) hk (.inl rfl : (4 : Nat) = 4 ∨ (4 : Nat) = 22)
        have h2 := fun v k2 => numR_ok (L := L) (lo := least) (hi := size - 1) (e := 4) (k := k) (x := v) (k' := k2)
        generalize numR L least (size - 1) 4 k = r1 at *
        cases r1 with
        | no j e => rfl
        | ok v k2 =>
          obtain ⟨_, _, _, _, _, _, e1⟩ := h2 v k2 rfl
          exact ih g _ _ k2 h1.2 (by omega) (by omega)
      · rfl
def elemsG (L : List Tk) (size least : Int) (acc : List Int) (k : Nat) : Rd (List Int) := elemsR L size (L.length + 1 - k) least acc k
theorem elemsG_eq (h : EndL L) (size least : Int) (acc : List Int) {k : Nat} (hk : k < L.length) : elemsG L size least acc k = if isN L k = true then ((numR L least (size - 1) 4 k).nx fun x k1 => elemsG L size (x + 1) (acc ++ [x]) k1) else .ok acc k := by
  have e : L.length + 1 - k = L.length - k + 1 := by omega
  conv => lhs; unfold elemsG; rw [e]; unfold elemsR
  split
  · have h1 := numR_fit h (lo := least) (hi := size - 1) hk (.inl rfl : (4 : Nat) = 4 ∨ (4 : Nat) = 22)
    have h2 := fun v k2 => numR_ok (L := L) (lo := least) (hi := size - 1) (e := 4) (k := k) (x := v) (k' := k2)
    generalize numR L least (size - 1) 4 k = r1 at *
    cases r1 with
    | no j e => rfl
    | ok v k2 =>
      obtain ⟨_, _, _, _, _, _, e1⟩ := h2 v k2 rfl
      exact elemsR_more h _ _ _ _ _ k2 h1.2 (by omega) (by omega)
  · rfl
theorem setsR_fit (h : EndL L) (size : Int) : ∀ (f : Nat) (acc : List (Int × List Int)) (k : Nat), k < L.length → L.length + 1 - k ≤ f → (setsR L size f acc k).Fit L.length k := by
  intro f
  induction f with
  | zero => intro acc k hk hf; omega
  | succ f ih =>
    intro acc k hk hf
    unfold setsR
    split
    · rename_i hw
      split
      · exact ⟨Nat.le_refl _, hk, .inr rfl⟩
      · have hg := isW_goes h hw
        refine Rd.Fit.le (k' := k + 1) (Rd.Fit.nx (numR_fit h hg (.inr rfl)) fun v k2 hv h2 h3 => Rd.Fit.nx (tokR_fit h h3 (by omega)) fun u k3 hu h4 h5 => Rd.Fit.nx (elemsR_fit h _ _ _ _ _ h5 (Nat.le_refl _)) fun l k4 hl h6 h7 => ?_) (by omega)
        exact ih _ k4 h7 (by omega)
    · exact ⟨Nat.le_refl _, hk⟩
theorem setsR_more (h : EndL L) (size : Int) : ∀ (f g : Nat) (acc : List (Int × List Int)) (k : Nat), k < L.length → L.length + 1 - k ≤ f → L.length + 1 - k ≤ g → setsR L size f acc k = setsR L size g acc k := by
  intro f
  induction f with
  | zero => intro g acc k hk hf; omega
  | succ f ih =>
    intro g acc k hk hf hg
    cases g with
    | zero => omega
    | succ g =>
      unfold setsR
      split
      · rename_i hw
        split
        · rfl
        · have hg2 := isW_goes h hw
          have h1 := numR_fit h (lo := 0) (hi := 2147483648) hg2 (.inr rfl : (22 : Nat) = 4 ∨ (22 : Nat) = 22)
          generalize numR L 0 2147483648 22 (k + 1) = r1 at *
          cases r1 with
          | no j e => rfl
          | ok v k2 =>
            have h2 := tokR_fit h (c := 2) h1.2 (by omega)
            simp only [Rd.nx]
            generalize tokR L 2 k2 = r2 at *
            cases r2 with
            | no j e => rfl
            | ok u k3 =>
              have h3 := elemsR_fit h size _ 0 [] k3 h2.2 (Nat.le_refl _)
              simp only
              generalize elemsR L size (L.length + 1 - k3) 0 [] k3 = r3 at *
              cases r3 with
              | no j e => rfl
              | ok l k4 => exact ih g _ k4 h3.2 (by have := h1.1; have := h2.1; have := h3.1; omega) (by have := h1.1; have := h2.1; have := h3.1; omega)
      · rfl
def setsG (L : List Tk) (size : Int) (acc : List (Int × List Int)) (k : Nat) : Rd (List (Int × List Int)) := setsR L size (L.length + 1 - k) acc k
theorem setsG_eq (h : EndL L) (size : Int) (acc : List (Int × List Int)) {k : Nat} (hk : k < L.length) : setsG L size acc k = if isW L setW k = true then (if acc.length = 4096 then .no k 22 else
      (numR L 0 2147483648 22 (k + 1)).nx fun c k2 => (tokR L 2 k2).nx fun _ k3 => (elemsG L size 0 [] k3).nx fun l k4 => setsG L size (acc ++ [(c, l)]) k4) else .ok acc k := by
  have e : L.length + 1 - k = L.length - k + 1 := by omega
  conv => lhs; unfold setsG; rw [e]; unfold setsR
  split
  · rename_i hw
    split
    · rfl
    · have hg2 := isW_goes h hw
      have h1 := numR_fit h (lo := 0) (hi := 2147483648) hg2 (.inr rfl : (22 : Nat) = 4 ∨ (22 : Nat) = 22)
      generalize numR L 0 2147483648 22 (k + 1) = r1 at *
      cases r1 with
      | no j e => rfl
      | ok v k2 =>
        have h2 := tokR_fit h (c := 2) h1.2 (by omega)
        simp only [Rd.nx]
        generalize tokR L 2 k2 = r2 at *
        cases r2 with
        | no j e => rfl
        | ok u k3 =>
          have h3 := elemsR_fit h size _ 0 [] k3 h2.2 (Nat.le_refl _)
          simp only [elemsG]
          generalize elemsR L size (L.length + 1 - k3) 0 [] k3 = r3 at *
          cases r3 with
          | no j e => rfl
          | ok l k4 => exact setsR_more h _ _ _ _ k4 h3.2 (by have := h1.1; have := h2.1; have := h3.1; omega) (by omega)
  · rfl
theorem cellsR_fit (h : EndL L) (own : Nat) (hollow : Bool) : ∀ (f : Nat) (acc : List Int) (k : Nat), k < L.length → (cellsR L own hollow f acc k).Fit L.length k := by
  intro f
  induction f with
  | zero => intro acc k hk; exact ⟨Nat.le_refl _, hk⟩
  | succ f ih =>
    intro acc k hk
    unfold cellsR
    have h1 := numR_fit h (lo := -2147483648) (hi := 2147483648) hk (.inr rfl : (22 : Nat) = 4 ∨ (22 : Nat) = 22)
    refine Rd.Fit.nx' h1 fun x k1 hx h2 h3 => ?_
    split
    · exact ⟨Nat.le_refl _, hk, .inl rfl⟩
    · exact (ih _ k1 h3).le h2
theorem rowR_fit (h : EndL L) (n own : Nat) (hollow : Bool) {k : Nat} (hk : k < L.length) : (rowR L n own hollow k).Fit L.length k :=
  Rd.Fit.nx (wordR_fit h hk) fun _ k1 _ _ h3 => cellsR_fit h own hollow n [] k1 h3
theorem rowsR_fit (h : EndL L) (n : Nat) (hollow : Bool) : ∀ (f : Nat) (acc : List (List Int)) (k : Nat), k < L.length → (rowsR L n hollow f acc k).Fit L.length k := by
  intro f
  induction f with
  | zero => intro acc k hk; exact ⟨Nat.le_refl _, hk⟩
  | succ f ih =>
    intro acc k hk
    unfold rowsR
    exact Rd.Fit.nx (rowR_fit h n acc.length hollow hk) fun r k1 _ _ h3 => ih _ k1 h3
theorem instR_fit (h : EndL L) : (instR L).Fit L.length 0 := by
  unfold instR
  have h1 : ∀ t, isW L t 0 = true → 1 < L.length := fun t ht => isW_goes h ht
  split
  · rename_i hw
    refine Rd.Fit.le (k' := 1) (Rd.Fit.nx (wordR_fit h (h1 _ hw)) fun _ k1 _ _ h3 => Rd.Fit.nx (numR_fit h h3 (.inr rfl)) fun c k2 _ _ h5 => Rd.Fit.nx (itemsR_fit h _ _ _ h5 (Nat.le_refl _)) fun l k3 _ _ h7 => ⟨Nat.le_refl _, h7⟩) (by omega)
  split
  · rename_i hw
    exact Rd.Fit.le (k' := 1) (Rd.Fit.nx (numR_fit h (h1 _ hw) (.inr rfl)) fun c k2 _ _ h5 => Rd.Fit.nx (rowsR_fit h _ _ _ _ _ h5) fun l k3 _ _ h7 => ⟨Nat.le_refl _, h7⟩) (by omega)
  split
  · rename_i hw
    exact Rd.Fit.le (k' := 1) (Rd.Fit.nx (numR_fit h (h1 _ hw) (.inr rfl)) fun c k2 _ _ h5 => Rd.Fit.nx (rowsR_fit h _ _ _ _ _ h5) fun l k3 _ _ h7 => ⟨Nat.le_refl _, h7⟩) (by omega)
  split
  · rename_i hw
    exact Rd.Fit.le (k' := 1) (Rd.Fit.nx (numR_fit h (h1 _ hw) (.inr rfl)) fun c k2 _ _ h5 => Rd.Fit.nx (setsR_fit h _ _ _ _ h5 (Nat.le_refl _)) fun l k3 _ _ h7 => ⟨Nat.le_refl _, h7⟩) (by omega)
  · exact ⟨Nat.le_refl _, h.pos, .inl rfl⟩
/-- Where the whole fails, it is at a token, with one of two errors. -/
theorem wholeR_no (h : EndL L) {j e : Nat} (hw : wholeR L = .no j e) : j < L.length ∧ (e = 4 ∨ e = 22) := by
  unfold wholeR at hw
  have h1 := instR_fit h
  generalize instR L = r at *
  cases r with
  | no j' e' =>
    injection hw with e1 e2
    subst e1; subst e2
    exact h1.2
  | ok I k =>
    have h2 := h1.2
    obtain ⟨x, hx⟩ := h.at h2
    have e0 : tokR L 3 k = if x.kind = 3 then .ok x (k + 1) else .no k 4 := by unfold tokR; rw [hx]
    change (tokR L 3 k).nx _ = _ at hw
    rw [e0] at hw
    by_cases h3 : x.kind = 3
    · rw [if_pos h3] at hw
      cases hw
    · rw [if_neg h3] at hw
      injection hw with e1 e2
      subst e1; subst e2
      exact ⟨h2, .inl rfl⟩

/-! ### what is read may be -/
theorem itemsR_good : ∀ (f : Nat) (acc : List (Int × Int)) (k : Nat) (l : List (Int × Int)) (j : Nat), itemsR L f acc k = .ok l j → acc.all (fun p => amt p.1 && amt p.2) = true → acc.length ≤ 4096 → l.all (fun p => amt p.1 && amt p.2) = true ∧ l.length ≤ 4096 := by
  intro f
  induction f with
  | zero => intro acc k l j h; cases h
  | succ f ih =>
    intro acc k l j h ha hl
    unfold itemsR at h
    split at h
    · split at h
      · cases h
      · rename_i hn
        obtain ⟨v, k2, h1, h⟩ := nx_ok h
        obtain ⟨u, k3, h2, h⟩ := nx_ok h
        obtain ⟨_, _, _, _, v1, v2, _⟩ := numR_ok h1
        obtain ⟨_, _, _, _, u1, u2, _⟩ := numR_ok h2
        refine ih _ _ _ _ h ?_ (by simp; omega)
        rw [List.all_append, ha]
        simp [amt, v1, v2, u1, u2]
    · injection h with e1 e2
      subst e1
      exact ⟨ha, hl⟩
theorem cellsR_good (own : Nat) (hollow : Bool) : ∀ (f : Nat) (acc : List Int) (k : Nat) (l : List Int) (j : Nat), cellsR L own hollow f acc k = .ok l j → ∃ m, l = acc ++ m ∧ m.length = f ∧ m.all mag = true ∧ (hollow = true → acc.length ≤ own → own < acc.length + f → m.getD (own - acc.length) 0 = 0) := by
  intro f
  induction f with
  | zero =>
    intro acc k l j h
    injection h with e1 e2
    exact ⟨[], by simp [e1], rfl, rfl, fun _ _ h2 => by omega⟩
  | succ f ih =>
    intro acc k l j h
    unfold cellsR at h
    obtain ⟨x, k1, h1, h⟩ := nx_ok h
    split at h
    · cases h
    · rename_i hn
      obtain ⟨_, _, _, _, v1, v2, _⟩ := numR_ok h1
      obtain ⟨m, e1, e2, e3, e4⟩ := ih _ _ _ _ h
      refine ⟨x :: m, by rw [e1]; simp, by simp [e2], by rw [List.all_cons, e3]; simp [mag, v1, v2], fun hh h5 h6 => ?_⟩
      rcases Nat.lt_or_ge acc.length own with h7 | h7
      · have := e4 hh (by simp; omega) (by simp; omega)
        rw [List.length_append, List.length_singleton] at this
        rw [show own - acc.length = (own - (acc.length + 1)) + 1 by omega]
        simpa using this
      · have h8 : acc.length = own := by omega
        rw [show own - acc.length = 0 by omega]
        simp only [List.getD_cons_zero]
        exact Decidable.byContradiction fun hx => hn ⟨hh, h8, hx⟩
theorem rowR_good {n own : Nat} {hollow : Bool} {k j : Nat} {l : List Int} (h : rowR L n own hollow k = .ok l j) : l.length = n ∧ l.all mag = true ∧ (hollow = true → own < n → l.getD own 0 = 0) := by
  unfold rowR at h
  obtain ⟨_, k1, _, h⟩ := nx_ok h
  obtain ⟨m, e1, e2, e3, e4⟩ := cellsR_good own hollow _ _ _ _ _ h
  rw [List.nil_append] at e1
  subst e1
  exact ⟨e2, e3, fun h1 h2 => e4 h1 (Nat.zero_le _) (by simpa using h2)⟩
theorem rowsR_good (n : Nat) (hollow : Bool) : ∀ (f : Nat) (acc : List (List Int)) (k : Nat) (R : List (List Int)) (j : Nat), rowsR L n hollow f acc k = .ok R j → acc.length + f ≤ n →
    ∃ M, R = acc ++ M ∧ M.length = f ∧ M.all (fun r => decide (r.length = n)) = true ∧ M.all (fun r => r.all mag) = true ∧ (hollow = true → hol acc.length M = true) := by
  intro f
  induction f with
  | zero =>
    intro acc k R j h _
    injection h with e1 e2
    exact ⟨[], by simp [e1], rfl, rfl, rfl, fun _ => rfl⟩
  | succ f ih =>
    intro acc k R j h hn
    unfold rowsR at h
    obtain ⟨r, k1, h1, h⟩ := nx_ok h
    obtain ⟨g1, g2, g3⟩ := rowR_good h1
    obtain ⟨M, e1, e2, e3, e4, e5⟩ := ih _ _ _ _ h (by simp; omega)
    refine ⟨r :: M, by rw [e1]; simp, by simp [e2], by simp only [List.all_cons, e3, g1, Bool.and_true, decide_eq_true_eq], by simp only [List.all_cons, e4, g2, Bool.and_true], fun hh => ?_⟩
    have h6 := e5 hh
    rw [List.length_append, List.length_singleton] at h6
    unfold hol
    rw [h6, g3 hh (by omega)]
    rfl
theorem elemsR_good (size : Int) : ∀ (f : Nat) (least : Int) (acc : List Int) (k : Nat) (l : List Int) (j : Nat), elemsR L size f least acc k = .ok l j → ∃ m, l = acc ++ m ∧ ris size least m = true := by
  intro f
  induction f with
  | zero => intro least acc k l j h; cases h
  | succ f ih =>
    intro least acc k l j h
    unfold elemsR at h
    split at h
    · obtain ⟨x, k1, h1, h⟩ := nx_ok h
      obtain ⟨_, _, _, _, v1, v2, _⟩ := numR_ok h1
      obtain ⟨m, e1, e2⟩ := ih _ _ _ _ _ h
      refine ⟨x :: m, by rw [e1]; simp, ?_⟩
      unfold ris
      rw [e2, decide_eq_true v1, decide_eq_true (show x < size by omega)]
      rfl
    · injection h with e1 e2
      exact ⟨[], by simp [e1], rfl⟩
theorem setsR_good (size : Int) : ∀ (f : Nat) (acc : List (Int × List Int)) (k : Nat) (l : List (Int × List Int)) (j : Nat), setsR L size f acc k = .ok l j → acc.all (fun s => amt s.1) = true → acc.all (fun s => ris size 0 s.2) = true → acc.length ≤ 4096 →
    l.all (fun s => amt s.1) = true ∧ l.all (fun s => ris size 0 s.2) = true ∧ l.length ≤ 4096 := by
  intro f
  induction f with
  | zero => intro acc k l j h; cases h
  | succ f ih =>
    intro acc k l j h ha hb hl
    unfold setsR at h
    split at h
    · split at h
      · cases h
      · rename_i hn
        obtain ⟨v, k2, h1, h⟩ := nx_ok h
        obtain ⟨_, k3, _, h⟩ := nx_ok h
        obtain ⟨u, k4, h3, h⟩ := nx_ok h
        obtain ⟨_, _, _, _, v1, v2, _⟩ := numR_ok h1
        obtain ⟨m, e1, e2⟩ := elemsR_good size _ _ _ _ _ _ h3
        rw [List.nil_append] at e1
        subst e1
        refine ih _ _ _ _ h ?_ ?_ (by simp; omega)
        · rw [List.all_append, ha]; simp [amt, v1, v2]
        · rw [List.all_append, hb]; simp [e2]
    · injection h with e1 e2
      subst e1
      exact ⟨ha, hb, hl⟩
theorem instR_good {I : In} {j : Nat} (h : instR L = .ok I j) : I.chk = 0 := by
  unfold instR at h
  split at h
  · unfold knapR at h
    obtain ⟨_, k1, _, h⟩ := nx_ok h
    obtain ⟨c, k2, hc, h⟩ := nx_ok h
    obtain ⟨l, k3, hl, h⟩ := nx_ok h
    injection h with e1 _
    subst e1
    obtain ⟨_, _, _, _, v1, v2, _⟩ := numR_ok hc
    obtain ⟨g1, g2⟩ := itemsR_good _ _ _ _ _ hl rfl (by simp)
    rw [In.chk_last (by simp) (by simp) (by simp [In.others, In.sq, In.cv]) (by simp [In.sized, g2]) (by simp [In.formed]) (by unfold In.fine; rw [g1]; simp [amt, v1, v2])]
    simp
  have sq : ∀ (kind : Int), (kind = 1 ∨ kind = 2) → squareR L kind 1 = .ok I j → I.chk = 0 := by
    intro kind hk h
    unfold squareR at h
    obtain ⟨n, k1, hn, h⟩ := nx_ok h
    obtain ⟨R, k2, hR, h⟩ := nx_ok h
    injection h with e1 _
    subst e1
    obtain ⟨_, _, _, _, v1, v2, _⟩ := numR_ok hn
    obtain ⟨M, e1, e2, e3, e4, e5⟩ := rowsR_good _ _ _ _ _ _ _ hR (by simp)
    rw [List.nil_append] at e1
    subst e1
    rw [In.chk_last (by rcases hk with rfl | rfl <;> simp) (by rcases hk with rfl | rfl <;> simp) (by unfold In.others In.kn In.cv; rcases hk with rfl | rfl <;> simp) (by unfold In.sized; simp; omega)
      (by unfold In.formed; simp only [e2]; rw [e3]; rfl) (by unfold In.fine; rw [e4]; rfl)]
    rw [if_neg]
    rintro ⟨h1, h2⟩
    have h3 := e5 (decide_eq_true h1)
    rw [List.length_nil] at h3
    rw [h3] at h2
    cases h2
  split at h
  · exact sq 1 (.inl rfl) h
  split at h
  · exact sq 2 (.inr rfl) h
  split at h
  · unfold coverR at h
    obtain ⟨z, k1, hz, h⟩ := nx_ok h
    obtain ⟨S, k2, hS, h⟩ := nx_ok h
    injection h with e1 _
    subst e1
    obtain ⟨_, _, _, _, v1, v2, _⟩ := numR_ok hz
    obtain ⟨g1, g2, g3⟩ := setsR_good _ _ _ _ _ _ hS rfl rfl (by simp)
    rw [In.chk_last (by simp) (by simp) (by simp [In.others, In.sq, In.kn]) (by simp [In.sized, g3, v1, v2]) (by unfold In.formed; rw [g2]; rfl) (by unfold In.fine; rw [g1]; simp [amt])]
    simp
  · cases h
theorem wholeR_ok {I : In} {j : Nat} (h : wholeR L = .ok I j) : I.chk = 0 := by
  unfold wholeR at h
  obtain ⟨J, k, h1, h⟩ := nx_ok h
  obtain ⟨_, k1, _, h⟩ := nx_ok h
  injection h with e1 _
  subst e1
  exact instR_good h1
end

/-! ### of a text -/
theorem lx_place : ∀ (n : Nat) (l : List UInt8), l.length ≤ n → ∀ line col rm, 1 ≤ col → (∀ x ∈ (lx l line col rm).toks, line ≤ x.line ∧ x.line ≤ line + lfs l ∧ 1 ≤ x.col) ∧ ((lx l line col rm).err ≠ 0 → line ≤ (lx l line col rm).line ∧ (lx l line col rm).line ≤ line + lfs l ∧ 1 ≤ (lx l line col rm).col) := by
  intro n
  induction n with
  | zero =>
    intro l hl line col rm hc
    obtain rfl : l = [] := List.eq_nil_of_length_eq_zero (by omega)
    refine ⟨fun x hx => ?_, fun h => absurd rfl h⟩
    have : x = ⟨3, [], 0, line, col⟩ := List.mem_singleton.1 hx
    rw [this]
    exact ⟨Nat.le_refl _, Nat.le_add_right _ _, hc⟩
  | succ n ih =>
    intro l hl line col rm hc
    cases l with
    | nil =>
      refine ⟨fun x hx => ?_, fun h => absurd rfl h⟩
      have : x = ⟨3, [], 0, line, col⟩ := List.mem_singleton.1 hx
      rw [this]
      exact ⟨Nat.le_refl _, Nat.le_add_right _ _, hc⟩
    | cons a r =>
      simp only [List.length_cons] at hl
      have bad : ∀ e, (∀ x ∈ (Rs.bad line col e).toks, line ≤ x.line ∧ x.line ≤ line + lfs (a :: r) ∧ 1 ≤ x.col) ∧ ((Rs.bad line col e).err ≠ 0 → line ≤ (Rs.bad line col e).line ∧ (Rs.bad line col e).line ≤ line + lfs (a :: r) ∧ 1 ≤ (Rs.bad line col e).col) :=
        fun e => ⟨fun x hx => absurd hx List.not_mem_nil, fun _ => ⟨Nat.le_refl _, Nat.le_add_right _ _, hc⟩⟩
      have wk : ∀ (R : Rs) (line' m : Nat), line ≤ line' → line' + m ≤ line + lfs (a :: r) → ((∀ x ∈ R.toks, line' ≤ x.line ∧ x.line ≤ line' + m ∧ 1 ≤ x.col) ∧ (R.err ≠ 0 → line' ≤ R.line ∧ R.line ≤ line' + m ∧ 1 ≤ R.col)) →
          (∀ x ∈ R.toks, line ≤ x.line ∧ x.line ≤ line + lfs (a :: r) ∧ 1 ≤ x.col) ∧ (R.err ≠ 0 → line ≤ R.line ∧ R.line ≤ line + lfs (a :: r) ∧ 1 ≤ R.col) :=
        fun R line' m h1 hm h => ⟨fun x hx => ⟨Nat.le_trans h1 (h.1 x hx).1, Nat.le_trans (h.1 x hx).2.1 hm, (h.1 x hx).2.2⟩, fun he => ⟨Nat.le_trans h1 (h.2 he).1, Nat.le_trans (h.2 he).2.1 hm, (h.2 he).2.2⟩⟩
      rw [lx_cons]
      by_cases h0 : pt (a :: r) = 0
      · rw [if_pos h0]; exact bad 20
      rw [if_neg h0]
      by_cases h10 : a = 10
      · rw [if_pos h10]
        refine wk _ (line + 1) (lfs r) (by omega) ?_ (ih r (by omega) _ _ _ (Nat.le_refl 1))
        have : lfs (a :: r) = lfs r + 1 := by unfold lfs; rw [h10]; simp
        omega
      rw [if_neg h10]
      by_cases hb : (rm || isB a) = true
      · rw [if_pos hb]
        refine wk _ line _ (Nat.le_refl _) ?_ (ih (r.drop (pt (a :: r) - 1)) (by rw [List.length_drop]; omega) line (col + 1) (rm || a == 35) (by omega))
        rw [pt_no10 h0 h10]
        exact Nat.le_refl _
      rw [if_neg hb]
      by_cases ht : (tk (a :: r)).1 = 0
      · rw [if_neg (show ¬ ((tk (a :: r)).1 ≠ 0) by omega)]
        have h1 := wk _ line _ (Nat.le_refl _) (show line + lfs (r.drop ((tk (a :: r)).2.2.1 - 1)) ≤ line + lfs (a :: r) by
          unfold lfs
          have e1 : List.count 10 (List.drop ((tk (a :: r)).2.2.1 - 1) r) ≤ List.count 10 r := (List.drop_sublist _ _).count_le _
          have e2 : List.count 10 r ≤ List.count 10 (a :: r) := (List.sublist_cons_self a r).count_le _
          omega) (ih (r.drop ((tk (a :: r)).2.2.1 - 1)) (by rw [List.length_drop]; omega) line (col + (tk (a :: r)).2.2.1) false (by omega))
        unfold Rs.pre
        split
        · rename_i he
          refine ⟨fun x hx => ?_, fun h2 => absurd he h2⟩
          rcases List.mem_cons.1 hx with rfl | hx
          · exact ⟨Nat.le_refl _, Nat.le_add_right _ _, hc⟩
          · exact h1.1 x hx
        · exact h1
      · rw [if_pos ht]; exact bad _
theorem endL_of {l : List UInt8} (h : (lexP l).err = 0) : EndL (lexP l).toks := by
  unfold lexP at h ⊢
  split at h
  · cases h
  · rename_i hlen
    rw [if_neg hlen]
    obtain ⟨ts, e, e1, e2, e3, _⟩ := lx_good _ l (Nat.le_refl _) 1 1 false h
    rw [e1]
    refine ⟨by simp, fun k x hx hk => ?_, fun k x hx hk => ?_⟩
    · rw [List.length_append, List.length_singleton] at hk
      obtain rfl : k = ts.length := by omega
      rw [List.getElem?_append_right (Nat.le_refl _), Nat.sub_self] at hx
      have : e = x := by simpa using hx
      rw [← this]
      exact e3.1
    · rw [List.length_append, List.length_singleton] at hk
      rw [List.getElem?_append_left (by omega)] at hx
      exact (e2 x (List.mem_of_getElem? hx)).1
/-- What is parsed may be; where it fails there is a place in the text. -/
theorem parseL_good (l : List UInt8) : ((parseL l).err = 0 ∧ (parseL l).inst.chk = 0 ∧ (parseL l).line = 0 ∧ (parseL l).col = 0) ∨
    ((parseL l).err ≠ 0 ∧ (parseL l).inst = zIn ∧ 1 ≤ (parseL l).line ∧ 1 ≤ (parseL l).col ∧ (parseL l).line ≤ 1 + l.count 10) := by
  have hp : (∀ x ∈ (lexP l).toks, 1 ≤ x.line ∧ x.line ≤ 1 + lfs l ∧ 1 ≤ x.col) ∧ ((lexP l).err ≠ 0 → 1 ≤ (lexP l).line ∧ (lexP l).line ≤ 1 + lfs l ∧ 1 ≤ (lexP l).col) := by
    unfold lexP
    split
    · exact ⟨fun x hx => absurd hx List.not_mem_nil, fun _ => ⟨Nat.le_refl _, Nat.le_add_right _ _, Nat.le_refl _⟩⟩
    · exact lx_place _ l (Nat.le_refl _) 1 1 false (Nat.le_refl _)
  unfold parseL
  by_cases he : (lexP l).err = 0
  · rw [if_pos he]
    have hE := endL_of he
    have h1 := fun I j => wholeR_ok (L := (lexP l).toks) (I := I) (j := j)
    have h2 := fun j e => wholeR_no hE (j := j) (e := e)
    generalize wholeR (lexP l).toks = r at *
    cases r with
    | ok I j => exact .inl ⟨rfl, h1 I j rfl, rfl, rfl⟩
    | no j e =>
      obtain ⟨h3, h4⟩ := h2 j e rfl
      obtain ⟨x, hx⟩ := hE.at h3
      obtain ⟨g1, g2, g3⟩ := hp.1 x (List.mem_of_getElem? hx)
      refine .inr ⟨?_, rfl, ?_, ?_, ?_⟩
      · show e ≠ 0
        omega
      · simp only [psOf, hx]; exact g1
      · simp only [psOf, hx]; exact g3
      · simp only [psOf, hx]; exact g2
  · rw [if_neg he]
    obtain ⟨g1, g2, g3⟩ := hp.2 he
    exact .inr ⟨he, rfl, g1, g3, g2⟩
end Go.Proofs.YtbadingdklenhaaGreatDoor
