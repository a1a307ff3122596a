/-
  What an instance's text is (layer 11), as lists of bytes; what is printed is read as the same instance. No program here.
-/
import Derived.Test.YtbadingdklenhaaGreatDoorParseMath
import Derived.Test.YtbadingdklenhaaGreatDoorLexJoinMath
import Derived.Test.YtbadingdklenhaaGreatDoorSignMath
import Derived.Lib.ItoaLen
namespace Go.Proofs.YtbadingdklenhaaGreatDoor
set_option maxRecDepth 100000

/-- A blank, and a number in decimals. -/
def numT (n : Int) : List UInt8 := 32 :: Lib.itoa n
def numsT : List Int → List UInt8
  | [] => []
  | n :: r => numT n ++ numsT r
def itemsT : List (Int × Int) → List UInt8
  | [] => []
  | p :: r => itemW ++ (numT p.1 ++ (numT p.2 ++ (10 :: itemsT r)))
def rowsT : List (List Int) → List UInt8
  | [] => []
  | r :: s => rowW ++ (numsT r ++ (10 :: rowsT s))
def setsT : List (Int × List Int) → List UInt8
  | [] => []
  | s :: r => setW ++ (numT s.1 ++ (58 :: (numsT s.2 ++ (10 :: setsT r))))
/-- The lines of an instance that may be. -/
def instT (I : In) : List UInt8 :=
  if I.kind = 0 then kW ++ (10 :: (capW ++ (numT I.cap ++ (10 :: itemsT I.items))))
  else if I.kind = 3 then cW ++ (numT I.size ++ (10 :: setsT I.sets))
  else (if I.kind = 1 then aW else tW) ++ (numT I.cost.length ++ (10 :: rowsT I.cost))
/-- Print's error, its text. -/
def prE (I : In) : Int := if I.chk = 0 then (if (instT I).length ≤ 1048576 then 0 else 7) else I.chk
def prT (I : In) : List UInt8 := if prE I = 0 then instT I else []

/-! ### its tokens -/
def Lexes (l : List UInt8) (B : List (Nat × List UInt8 × Int)) : Prop := ∀ line col, (lx l line col false).err = 0 ∧ (lx l line col false).toks.map bare = B ∧ (lx l line col false).line = 0 ∧ (lx l line col false).col = 0
def SepA (R : List UInt8) : Prop := R = [] ∨ ∃ b t, R = b :: t ∧ isA b = false
theorem SepA.num (n : Int) (R : List UInt8) : SepA (numT n ++ R) := .inr ⟨32, Lib.itoa n ++ R, rfl, rfl⟩
theorem SepA.line (R : List UInt8) : SepA (10 :: R) := .inr ⟨10, R, rfl, rfl⟩
theorem SepA.colon (R : List UInt8) : SepA (58 :: R) := .inr ⟨58, R, rfl, rfl⟩
theorem SepA.nums {R : List UInt8} (h : SepA R) : ∀ l : List Int, SepA (numsT l ++ R)
  | [] => h
  | n :: r => by
    show SepA ((numT n ++ numsT r) ++ R)
    rw [List.append_assoc]
    exact SepA.num _ _
theorem Lexes.nil : Lexes [] [(3, [], 0)] := fun line col => by rw [lx_nil]; exact ⟨rfl, rfl, rfl, rfl⟩
section
variable {R : List UInt8} {B : List (Nat × List UInt8 × Int)}
theorem Lexes.space (h : Lexes R B) : Lexes (32 :: R) B := fun line col => by rw [lx_space]; exact h _ _
theorem Lexes.line (h : Lexes R B) : Lexes (10 :: R) B := fun line col => by
  rw [lx_cons, if_neg (by rw [pt_ascii (by decide)]; omega), if_pos rfl]
  exact h _ _
theorem Lexes.tok {a : UInt8} {u : List UInt8} {c : Nat} {v : Int} (h : Lexes R B) (h1 : a.toNat < 128) (h2 : a ≠ 10) (h3 : isB a = false) (h4 : tk (a :: (u ++ R)) = (0, c, u.length + 1, v)) : Lexes (a :: (u ++ R)) ((c, a :: u, v) :: B) := by
  intro line col
  rw [lx_cons, if_neg (by rw [pt_ascii h1]; omega), if_neg h2, if_neg (by rw [h3]; simp), h4]
  simp only
  rw [if_neg (by simp)]
  have e1 : (u ++ R).drop (u.length + 1 - 1) = R := by rw [Nat.add_sub_cancel, List.drop_left]
  have e2 : tkAt (a :: (u ++ R)) line col = ⟨c, a :: u, v, line, col⟩ := by
    unfold tkAt
    rw [h4]
    simp
  rw [e1, e2]
  obtain ⟨g1, g2, g3, g4⟩ := h line (col + (u.length + 1))
  unfold Rs.pre
  rw [if_pos g1]
  refine ⟨g1, ?_, g3, g4⟩
  show ([_] ++ (lx R line (col + (u.length + 1)) false).toks).map bare = _
  rw [List.map_append, g2]
  rfl
theorem Lexes.colon (h : Lexes R B) : Lexes (58 :: R) ((2, [58], 0) :: B) := Lexes.tok (u := []) h (by decide) (by decide) rfl (by unfold tk; simp)
theorem takeWhile_sepA {r : List UInt8} (h : SepA R) (hr : ∀ b ∈ r, isA b = true) : (r ++ R).takeWhile isA = r := by
  induction r with
  | nil =>
    rcases h with rfl | ⟨b, t, rfl, hb⟩
    · rfl
    · rw [List.nil_append, List.takeWhile_cons, if_neg (by rw [hb]; simp)]
  | cons a r ih => rw [List.cons_append, List.takeWhile_cons, if_pos (hr a (List.mem_cons_self ..)), ih (fun b hb => hr b (List.mem_cons_of_mem _ hb))]
theorem tk_run {a : UInt8} {u : List UInt8} {c : Nat} {v : Int} (hR : SepA R) (h58 : a ≠ 58) (hb : begins a (u ++ R) = true) (hu : ∀ b ∈ u, isA b = true) (hrd : rd (a :: u) = (0, c, v)) : tk (a :: (u ++ R)) = (0, c, u.length + 1, v) := by
  have hw : wd (a :: (u ++ R)) = a :: u := by
    show a :: (u ++ R).takeWhile isA = _
    rw [takeWhile_sepA hR hu]
  unfold tk
  simp only
  rw [if_neg h58, if_pos hb, hw, hrd]
  rfl
theorem isL_facts {b : UInt8} (h : isL b = true) : isA b = true ∧ b.toNat < 128 ∧ b ≠ 10 ∧ b ≠ 58 ∧ isB b = false := by
  have h' := h
  unfold isL at h
  simp only [Bool.and_eq_true, decide_eq_true_eq] at h
  refine ⟨by unfold isA; rw [h']; rfl, by omega, ?_, ?_, ?_⟩
  · rintro rfl; simp at h
  · rintro rfl; simp at h
  · unfold isB
    simp only [Bool.or_eq_false_iff, beq_eq_false_iff_ne]
    refine ⟨⟨⟨?_, ?_⟩, ?_⟩, ?_⟩
    all_goals
      rintro rfl
      simp at h
theorem isD_facts {b : UInt8} (h : 48 ≤ b.toNat ∧ b.toNat ≤ 57) : isD b = true ∧ isA b = true ∧ isL b = false ∧ b.toNat < 128 ∧ b ≠ 10 ∧ b ≠ 58 ∧ b ≠ 45 ∧ isB b = false := by
  have hd : isD b = true := by unfold isD; simp only [Bool.and_eq_true, decide_eq_true_eq]; exact h
  refine ⟨hd, by unfold isA; rw [hd]; simp, ?_, by omega, ?_, ?_, ?_, ?_⟩
  · unfold isL
    simp only [Bool.and_eq_false_iff, decide_eq_false_iff_not]
    omega
  · rintro rfl; simp at h
  · rintro rfl; simp at h
  · rintro rfl; simp at h
  · unfold isB
    simp only [Bool.or_eq_false_iff, beq_eq_false_iff_ne]
    refine ⟨⟨⟨?_, ?_⟩, ?_⟩, ?_⟩
    all_goals
      rintro rfl
      simp at h
theorem Lexes.word {t : List UInt8} (h : Lexes R B) (hR : SepA R) (h1 : t.all isL = true) (h2 : t.length ≤ 32) (h0 : t ≠ []) : Lexes (t ++ R) ((0, t, 0) :: B) := by
  cases t with
  | nil => exact absurd rfl h0
  | cons a u =>
    have hall := List.all_eq_true.1 h1
    obtain ⟨f1, f2, f3, f4, f5⟩ := isL_facts (hall a (List.mem_cons_self ..))
    refine Lexes.tok h f2 f3 f5 (tk_run hR f4 ?_ (fun b hb => (isL_facts (hall b (List.mem_cons_of_mem _ hb))).1) ?_)
    · unfold begins
      rw [f1]
      rfl
    · unfold rd
      rw [if_pos h1, if_pos h2]
theorem dec_cons (u : Nat) : ∃ b t, Lib.decDigits u = b :: t ∧ (48 ≤ b.toNat ∧ b.toNat ≤ 57) ∧ ∀ c ∈ t, 48 ≤ c.toNat ∧ c.toNat ≤ 57 := by
  have hd := dec_digits u
  cases hq : Lib.decDigits u with
  | nil =>
    exfalso
    by_cases h : u < 10
    · rw [dec_lt h] at hq; cases hq
    · rw [dec_step h] at hq; simp at hq
  | cons b t =>
    rw [hq] at hd
    exact ⟨b, t, rfl, hd b (List.mem_cons_self ..), fun c hc => hd c (List.mem_cons_of_mem _ hc)⟩
theorem dv_dec (u : Nat) : dv (Lib.decDigits u) = u := valD_dec u
theorem dec_all (u : Nat) : (Lib.decDigits u).all isD = true := List.all_eq_true.2 fun b hb => (isD_facts (dec_digits u b hb)).1
theorem rd_pos (u : Nat) (h : (u : Int) ≤ 9223372036854775807) : rd (Lib.decDigits u) = (0, 1, (u : Int)) := by
  have ha := dec_all u
  have hv := dv_dec u
  obtain ⟨b, t, e, hb, ht⟩ := dec_cons u
  rw [e] at ha hv ⊢
  obtain ⟨d1, d2, d3, d4, d5, d6, d7, d8⟩ := isD_facts hb
  have hp : Lib.hasPrefix (b :: t) [45] = false := by
    unfold Lib.hasPrefix
    simp [List.isPrefixOf]
    exact fun e => d7 e.symm
  have hu : unsg (b :: t) = b :: t := by unfold unsg Lib.trimPrefix; rw [hp]; rfl
  have hvw : valW (b :: t) = (u : Int) := by unfold valW; rw [hp, hv]; rfl
  unfold rd
  rw [if_neg (by rw [List.all_cons, d3]; simp), hu, if_pos ha, hvw, if_pos (by omega)]
theorem rd_neg (u : Nat) (h : (u : Int) ≤ 9223372036854775808) : rd (45 :: Lib.decDigits u) = (0, 1, -(u : Int)) := by
  have ha := dec_all u
  have hp : Lib.hasPrefix (45 :: Lib.decDigits u) [45] = true := by
    unfold Lib.hasPrefix
    simp [List.isPrefixOf]
  have hu : unsg (45 :: Lib.decDigits u) = Lib.decDigits u := by unfold unsg Lib.trimPrefix; rw [hp]; rfl
  have hvw : valW (45 :: Lib.decDigits u) = -(u : Int) := by unfold valW; rw [hp, hu, dv_dec]; rfl
  unfold rd
  rw [if_neg (by rw [List.all_cons]; simp [show isL 45 = false from rfl]), hu, if_pos ha, hvw, if_pos (by omega)]
theorem Lexes.num {n : Int} (h : Lexes R B) (hR : SepA R) (hn : I64 n) : Lexes (numT n ++ R) ((1, Lib.itoa n, n) :: B) := by
  obtain ⟨n0, n1⟩ := hn
  refine Lexes.space ?_
  show Lexes (Lib.itoa n ++ R) _
  by_cases h0 : n < 0
  · obtain ⟨u, rfl⟩ : ∃ u : Nat, n = -(u : Int) := ⟨n.natAbs, by omega⟩
    have e : Lib.itoa (-(u : Int)) = 45 :: Lib.decDigits u := by
      unfold Lib.itoa
      rw [if_pos h0]
      congr 2
      omega
    rw [e]
    obtain ⟨b, t, eb, hb, ht⟩ := dec_cons u
    refine Lexes.tok h (by decide) (by decide) rfl (tk_run hR (by decide) ?_ (fun c hc => (isD_facts (dec_digits u c hc)).2.1) (rd_neg u (by omega)))
    rw [eb]
    unfold begins
    simp [(isD_facts hb).1]
  · obtain ⟨u, rfl⟩ : ∃ u : Nat, n = (u : Int) := ⟨n.toNat, by omega⟩
    have e : Lib.itoa (u : Int) = Lib.decDigits u := by
      unfold Lib.itoa
      rw [if_neg h0]
      rfl
    have hr := rd_pos u (by omega)
    rw [e]
    obtain ⟨b, t, eb, hb, ht⟩ := dec_cons u
    obtain ⟨d1, d2, d3, d4, d5, d6, d7, d8⟩ := isD_facts hb
    rw [eb] at hr ⊢
    refine Lexes.tok h d4 d5 d8 (tk_run hR d6 ?_ (fun c hc => (isD_facts (ht c hc)).2.1) hr)
    unfold begins
    rw [d2]
    rfl
end
def wB (t : List UInt8) : Nat × List UInt8 × Int := (0, t, 0)
def nB (n : Int) : Nat × List UInt8 × Int := (1, Lib.itoa n, n)
def cB : Nat × List UInt8 × Int := (2, [58], 0)
def eB : Nat × List UInt8 × Int := (3, [], 0)
def itemsB : List (Int × Int) → List (Nat × List UInt8 × Int)
  | [] => []
  | p :: r => wB itemW :: nB p.1 :: nB p.2 :: itemsB r
def rowsB : List (List Int) → List (Nat × List UInt8 × Int)
  | [] => []
  | r :: s => wB rowW :: (r.map nB ++ rowsB s)
def setsB : List (Int × List Int) → List (Nat × List UInt8 × Int)
  | [] => []
  | s :: r => wB setW :: nB s.1 :: cB :: (s.2.map nB ++ setsB r)
def instB (I : In) : List (Nat × List UInt8 × Int) :=
  if I.kind = 0 then wB kW :: wB capW :: nB I.cap :: (itemsB I.items ++ [eB])
  else if I.kind = 3 then wB cW :: nB I.size :: (setsB I.sets ++ [eB])
  else wB (if I.kind = 1 then aW else tW) :: nB I.cost.length :: (rowsB I.cost ++ [eB])
theorem Lexes.nums {R : List UInt8} {B : List (Nat × List UInt8 × Int)} (h : Lexes R B) (hR : SepA R) : ∀ l : List Int, (∀ n ∈ l, I64 n) → Lexes (numsT l ++ R) (l.map nB ++ B)
  | [], _ => h
  | n :: r, hl => by
    show Lexes ((numT n ++ numsT r) ++ R) (nB n :: (r.map nB ++ B))
    rw [List.append_assoc]
    exact Lexes.num (Lexes.nums h hR r (fun m hm => hl m (List.mem_cons_of_mem _ hm))) (hR.nums r) (hl n (List.mem_cons_self ..))
theorem lexes_items : ∀ l : List (Int × Int), (∀ p ∈ l, I64 p.1 ∧ I64 p.2) → Lexes (itemsT l) (itemsB l ++ [eB])
  | [], _ => Lexes.nil
  | p :: r, hl => by
    have hp := hl p (List.mem_cons_self ..)
    exact Lexes.word (Lexes.num (Lexes.num (Lexes.line (lexes_items r (fun q hq => hl q (List.mem_cons_of_mem _ hq)))) (SepA.line _) hp.2) (SepA.num _ _) hp.1) (SepA.num _ _) rfl (by decide) (by decide)
theorem lexes_rows : ∀ l : List (List Int), (∀ r ∈ l, ∀ n ∈ r, I64 n) → Lexes (rowsT l) (rowsB l ++ [eB])
  | [], _ => Lexes.nil
  | r :: s, hl => by
    have e : rowsB (r :: s) ++ [eB] = wB rowW :: (r.map nB ++ (rowsB s ++ [eB])) := by simp [rowsB]
    rw [e]
    exact Lexes.word (Lexes.nums (Lexes.line (lexes_rows s (fun q hq => hl q (List.mem_cons_of_mem _ hq)))) (SepA.line _) r (hl r (List.mem_cons_self ..))) ((SepA.line _).nums r) rfl (by decide) (by decide)
theorem lexes_sets : ∀ l : List (Int × List Int), (∀ s ∈ l, I64 s.1 ∧ ∀ n ∈ s.2, I64 n) → Lexes (setsT l) (setsB l ++ [eB])
  | [], _ => Lexes.nil
  | s :: r, hl => by
    have hs := hl s (List.mem_cons_self ..)
    have e : setsB (s :: r) ++ [eB] = wB setW :: nB s.1 :: cB :: (s.2.map nB ++ (setsB r ++ [eB])) := by simp [setsB]
    rw [e]
    exact Lexes.word (Lexes.num (Lexes.colon (Lexes.nums (Lexes.line (lexes_sets r (fun q hq => hl q (List.mem_cons_of_mem _ hq)))) (SepA.line _) s.2 hs.2)) (SepA.colon _) hs.1) (SepA.num _ _) rfl (by decide) (by decide)
theorem amt_i64 {x : Int} (h : amt x = true) : 0 ≤ x ∧ x ≤ 2147483648 := by
  unfold amt at h
  simpa using h
theorem mag_i64 {x : Int} (h : mag x = true) : -2147483648 ≤ x ∧ x ≤ 2147483648 := by
  unfold mag at h
  simpa using h
theorem ris_in {z : Int} : ∀ (l : List Int) (m : Int), ris z m l = true → ∀ x ∈ l, m ≤ x ∧ x < z
  | [], _, _, x, hx => absurd hx List.not_mem_nil
  | y :: r, m, h, x, hx => by
    simp only [ris, Bool.and_eq_true, decide_eq_true_eq] at h
    rcases List.mem_cons.1 hx with rfl | hx
    · exact h.1
    · have := ris_in r (y + 1) h.2 x hx
      omega
/-- What an instance that may be has. -/
structure May (I : In) : Prop where
  mk ::
  kind : 0 ≤ I.kind ∧ I.kind ≤ 3
  cap : 0 ≤ I.cap ∧ I.cap ≤ 2147483648
  items : ∀ p ∈ I.items, (0 ≤ p.1 ∧ p.1 ≤ 2147483648) ∧ (0 ≤ p.2 ∧ p.2 ≤ 2147483648)
  cost : ∀ r ∈ I.cost, r.length = I.cost.length ∧ ∀ n ∈ r, -2147483648 ≤ n ∧ n ≤ 2147483648
  size : 0 ≤ I.size ∧ I.size ≤ 4096
  sets : ∀ s ∈ I.sets, (0 ≤ s.1 ∧ s.1 ≤ 2147483648) ∧ ris I.size 0 s.2 = true
  ilen : I.items.length ≤ 4096
  clen : I.cost.length ≤ 64
  slen : I.sets.length ≤ 4096
  sq : I.kind = 1 ∨ I.kind = 2 → 1 ≤ I.cost.length
  hol : I.kind = 2 → hol 0 I.cost = true
  k0 : I.kind = 0 → I.cost = [] ∧ I.size = 0 ∧ I.sets = []
  k3 : I.kind = 3 → I.cap = 0 ∧ I.items = [] ∧ I.cost = []
  k12 : I.kind = 1 ∨ I.kind = 2 → I.cap = 0 ∧ I.items = [] ∧ I.size = 0 ∧ I.sets = []
theorem nil_of {α : Type} {l : List α} (h : ¬ 0 < l.length) : l = [] := List.eq_nil_of_length_eq_zero (by omega)
theorem In.chk_may {I : In} (h : I.chk = 0) : May I := by
  by_cases a1 : I.kind < 0 ∨ 3 < I.kind
  · rw [In.chk_kind a1] at h; omega
  have b1 : 0 ≤ I.kind := by omega
  have b2 : I.kind ≤ 3 := by omega
  by_cases a2 : I.others = true
  · rw [In.chk_others b1 b2 a2] at h; omega
  have b3 : I.others = false := by simpa using a2
  by_cases a3 : I.sized = false
  · rw [In.chk_sized b1 b2 b3 a3] at h; omega
  have b4 : I.sized = true := by simpa using a3
  by_cases a4 : I.formed = false
  · rw [In.chk_formed b1 b2 b3 b4 a4] at h; omega
  have b5 : I.formed = true := by simpa using a4
  by_cases a5 : I.fine = false
  · rw [In.chk_fine b1 b2 b3 b4 b5 a5] at h; omega
  have b6 : I.fine = true := by simpa using a5
  rw [In.chk_last b1 b2 b3 b4 b5 b6] at h
  have b7 : I.kind = 2 → Go.Proofs.YtbadingdklenhaaGreatDoor.hol 0 I.cost = true := by
    intro hk
    cases hh : Go.Proofs.YtbadingdklenhaaGreatDoor.hol 0 I.cost with
    | true => rfl
    | false => rw [if_pos ⟨hk, hh⟩] at h; omega
  unfold In.sized at b4
  unfold In.formed at b5
  unfold In.fine at b6
  unfold In.others In.kn In.sq In.cv at b3
  simp only [Bool.and_eq_true, Bool.or_eq_true, decide_eq_true_eq, Bool.not_eq_true', List.all_eq_true] at b4 b5 b6
  simp only [Bool.or_eq_false_iff, Bool.and_eq_false_iff, decide_eq_false_iff_not, Decidable.not_not] at b3
  obtain ⟨⟨⟨⟨⟨c1, c2⟩, c3⟩, c4⟩, c5⟩, c6⟩ := b4
  obtain ⟨d1, d2⟩ := b5
  obtain ⟨e1, e2, e3, e4⟩ := b6
  refine ⟨⟨b1, b2⟩, amt_i64 e1, fun p hp => ⟨amt_i64 (e2 p hp).1, amt_i64 (e2 p hp).2⟩, fun r hr => ⟨d1 r hr, fun n hn => mag_i64 (e3 r hr n hn)⟩, ⟨c4, c5⟩, fun s hs => ⟨amt_i64 (e4 s hs), d2 s hs⟩, c1, c2, c6, ?_, b7, ?_, ?_, ?_⟩
  · intro hk
    rcases c3 with c3 | c3
    · exact c3
    · simp only [Bool.or_eq_false_iff, decide_eq_false_iff_not] at c3
      omega
  · intro hk
    rcases b3.1.1 with q | ⟨q1, q2, q3⟩
    · exact absurd hk q
    · exact ⟨nil_of q1, q2, nil_of q3⟩
  · intro hk
    rcases b3.1.2 with q | ⟨⟨q1, q2⟩, q3⟩
    · exact absurd hk q
    · exact ⟨q1, nil_of q2, nil_of q3⟩
  · intro hk
    rcases b3.2 with q | q | ⟨⟨q1, q2⟩, q3, q4⟩
    · omega
    · omega
    · exact ⟨q1, nil_of q2, q3, nil_of q4⟩
theorem lexes_inst {I : In} (h : May I) : Lexes (instT I) (instB I) := by
  unfold instT instB
  by_cases h0 : I.kind = 0
  · rw [if_pos h0, if_pos h0]
    have hc := h.cap
    exact Lexes.word (Lexes.line (Lexes.word (Lexes.num (Lexes.line (lexes_items _ (fun p hp => by have := h.items p hp; exact ⟨⟨by omega, by omega⟩, ⟨by omega, by omega⟩⟩))) (SepA.line _) ⟨by omega, by omega⟩) (SepA.num _ _) rfl (by decide) (by decide))) (SepA.line _) rfl (by decide) (by decide)
  rw [if_neg h0, if_neg h0]
  by_cases h3 : I.kind = 3
  · rw [if_pos h3, if_pos h3]
    have hz := h.size
    exact Lexes.word (Lexes.num (Lexes.line (lexes_sets _ (fun s hs => by
      have := h.sets s hs
      exact ⟨⟨by omega, by omega⟩, fun n hn => by have := ris_in _ _ this.2 n hn; exact ⟨by omega, by omega⟩⟩))) (SepA.line _) ⟨by omega, by omega⟩) (SepA.num _ _) rfl (by decide) (by decide)
  rw [if_neg h3, if_neg h3]
  have hl := h.clen
  have key : Lexes (numT I.cost.length ++ (10 :: rowsT I.cost)) (nB I.cost.length :: (rowsB I.cost ++ [eB])) := Lexes.num (Lexes.line (lexes_rows _ (fun r hr n hn => by have := (h.cost r hr).2 n hn; exact ⟨by omega, by omega⟩))) (SepA.line _) ⟨by omega, by omega⟩
  by_cases h1 : I.kind = 1
  · rw [if_pos h1]
    exact Lexes.word key (SepA.num _ _) rfl (by decide) (by decide)
  · rw [if_neg h1]
    exact Lexes.word key (SepA.num _ _) rfl (by decide) (by decide)

/-! ### what these tokens are read as -/
/-- From token k on. -/
def At (L : List Tk) (k : Nat) (B : List (Nat × List UInt8 × Int)) : Prop := (L.drop k).map bare = B
section
variable {L : List Tk} {k : Nat} {B : List (Nat × List UInt8 × Int)}
theorem At.get {b : Nat × List UInt8 × Int} (h : At L k (b :: B)) : ∃ x, L[k]? = some x ∧ x.kind = b.1 ∧ x.text = b.2.1 ∧ x.n = b.2.2 ∧ k < L.length ∧ At L (k + 1) B := by
  unfold At at h ⊢
  have hk : k < L.length := by
    rcases Nat.lt_or_ge k L.length with h1 | h1
    · exact h1
    · rw [List.drop_eq_nil_of_le h1] at h; cases h
  rw [List.drop_eq_getElem_cons hk, List.map_cons] at h
  injection h with h1 h2
  exact ⟨L[k], List.getElem?_eq_getElem hk, by rw [← h1]; rfl, by rw [← h1]; rfl, by rw [← h1]; rfl, hk, h2⟩
theorem At.lt {b : Nat × List UInt8 × Int} (h : At L k (b :: B)) : k < L.length := by obtain ⟨_, _, _, _, _, h1, _⟩ := h.get; exact h1
theorem At.next {b : Nat × List UInt8 × Int} (h : At L k (b :: B)) : At L (k + 1) B := by obtain ⟨_, _, _, _, _, _, h1⟩ := h.get; exact h1
theorem At.word {t : List UInt8} (h : At L k (wB t :: B)) : isW L t k = true := by
  obtain ⟨x, hx, h1, h2, _⟩ := h.get
  unfold isW
  rw [hx]
  simp [h1, h2, wB]
theorem At.noword {t u : List UInt8} (h : At L k (wB u :: B)) (hne : u ≠ t) : isW L t k = false := by
  obtain ⟨x, hx, h1, h2, _⟩ := h.get
  unfold isW
  rw [hx]
  simp [h2, wB, hne]
theorem At.noW {t : List UInt8} {b : Nat × List UInt8 × Int} (h : At L k (b :: B)) (hb : b.1 ≠ 0) : isW L t k = false := by
  obtain ⟨x, hx, h1, h2, _⟩ := h.get
  unfold isW
  rw [hx]
  simp [h1, hb]
theorem At.num {n lo hi : Int} {e : Nat} (h : At L k (nB n :: B)) (h1 : lo ≤ n) (h2 : n ≤ hi) : numR L lo hi e k = .ok n (k + 1) := by
  obtain ⟨x, hx, g1, g2, g3, _⟩ := h.get
  have g1 : x.kind = 1 := g1
  have g3 : x.n = n := g3
  unfold numR
  rw [hx]
  simp only
  rw [if_pos g1, g3, if_pos ⟨h1, h2⟩]
theorem At.isN {n : Int} (h : At L k (nB n :: B)) : isN L k = true := by
  obtain ⟨x, hx, g1, _⟩ := h.get
  have g1 : x.kind = 1 := g1
  unfold Go.Proofs.YtbadingdklenhaaGreatDoor.isN
  rw [hx]
  simp [g1]
theorem At.noN {b : Nat × List UInt8 × Int} (h : At L k (b :: B)) (hb : b.1 ≠ 1) : Go.Proofs.YtbadingdklenhaaGreatDoor.isN L k = false := by
  obtain ⟨x, hx, g1, _⟩ := h.get
  unfold Go.Proofs.YtbadingdklenhaaGreatDoor.isN
  rw [hx]
  simp [g1, hb]
theorem At.tok {b : Nat × List UInt8 × Int} (h : At L k (b :: B)) : ∃ x, tokR L b.1 k = .ok x (k + 1) := by
  obtain ⟨x, hx, g1, _⟩ := h.get
  unfold tokR
  rw [hx]
  simp only
  rw [if_pos g1]
  exact ⟨x, rfl⟩
end
section
variable {L : List Tk} (hE : EndL L)
include hE
theorem items_at : ∀ (l acc : List (Int × Int)) (k : Nat), At L k (itemsB l ++ [eB]) → (∀ p ∈ l, (0 ≤ p.1 ∧ p.1 ≤ 2147483648) ∧ (0 ≤ p.2 ∧ p.2 ≤ 2147483648)) → acc.length + l.length ≤ 4096 → ∃ k', itemsG L acc k = .ok (acc ++ l) k' ∧ At L k' [eB]
  | [], acc, k, h, _, _ => by
    have h : At L k (eB :: []) := h
    rw [itemsG_eq hE acc h.lt, h.noW (by decide), List.append_nil]
    exact ⟨k, rfl, h⟩
  | p :: r, acc, k, h, hl, hn => by
    have h : At L k (wB itemW :: nB p.1 :: nB p.2 :: (itemsB r ++ [eB])) := h
    have hp := hl p (List.mem_cons_self ..)
    rw [List.length_cons] at hn
    obtain ⟨k', e1, e2⟩ := items_at r (acc ++ [p]) (k + 1 + 1 + 1) h.next.next.next (fun q hq => hl q (List.mem_cons_of_mem _ hq)) (by simp; omega)
    refine ⟨k', ?_, e2⟩
    rw [itemsG_eq hE acc h.lt, h.word, if_pos rfl, if_neg (by omega), h.next.num hp.1.1 hp.1.2]
    show (numR L 0 2147483648 22 (k + 1 + 1)).nx _ = _
    rw [h.next.next.num hp.2.1 hp.2.2]
    show itemsG L (acc ++ [(p.1, p.2)]) (k + 1 + 1 + 1) = _
    rw [show (p.1, p.2) = p from rfl, e1, List.append_assoc]
    rfl
omit hE in
theorem cells_at {own : Nat} {hollow : Bool} : ∀ (l acc : List Int) (k : Nat) (B : List (Nat × List UInt8 × Int)), At L k (l.map nB ++ B) → (∀ n ∈ l, -2147483648 ≤ n ∧ n ≤ 2147483648) → (hollow = true → (acc ++ l).getD own 0 = 0) → ∃ k', cellsR L own hollow l.length acc k = .ok (acc ++ l) k' ∧ At L k' B
  | [], acc, k, B, h, _, _ => ⟨k, by rw [List.append_nil]; rfl, h⟩
  | n :: r, acc, k, B, h, hl, hh => by
    have h : At L k (nB n :: (r.map nB ++ B)) := h
    have hn := hl n (List.mem_cons_self ..)
    have e0 : acc ++ n :: r = (acc ++ [n]) ++ r := by simp
    rw [e0] at hh ⊢
    obtain ⟨k', e1, e2⟩ := cells_at r (acc ++ [n]) (k + 1) B h.next (fun m hm => hl m (List.mem_cons_of_mem _ hm)) hh
    refine ⟨k', ?_, e2⟩
    rw [List.length_cons]
    unfold cellsR
    rw [h.num hn.1 hn.2]
    show (if hollow = true ∧ acc.length = own ∧ n ≠ 0 then _ else _) = _
    rw [if_neg, e1]
    rintro ⟨q1, q2, q3⟩
    apply q3
    have := hh q1
    rw [← q2, List.getD_eq_getElem?_getD, List.getElem?_append_left (by simp), List.getElem?_append_right (Nat.le_refl _), Nat.sub_self] at this
    simpa using this
omit hE in
theorem rows_at {n : Nat} {hollow : Bool} : ∀ (l acc : List (List Int)) (k : Nat), At L k (rowsB l ++ [eB]) → (∀ r ∈ l, r.length = n ∧ ∀ x ∈ r, -2147483648 ≤ x ∧ x ≤ 2147483648) → (hollow = true → hol acc.length l = true) → ∃ k', rowsR L n hollow l.length acc k = .ok (acc ++ l) k' ∧ At L k' [eB]
  | [], acc, k, h, _, _ => ⟨k, by rw [List.append_nil]; rfl, h⟩
  | r :: s, acc, k, h, hl, hh => by
    have e0 : rowsB (r :: s) ++ [eB] = wB rowW :: (r.map nB ++ (rowsB s ++ [eB])) := by simp [rowsB]
    rw [e0] at h
    have hr := hl r (List.mem_cons_self ..)
    have hh1 : hollow = true → r.getD acc.length 0 = 0 ∧ hol (acc.length + 1) s = true := by
      intro q
      have := hh q
      simpa only [hol, Bool.and_eq_true, decide_eq_true_eq] using this
    obtain ⟨k1, e1, e2⟩ := cells_at (own := acc.length) (hollow := hollow) r [] (k + 1) _ h.next hr.2 (fun q => by rw [List.nil_append]; exact (hh1 q).1)
    obtain ⟨k2, e3, e4⟩ := rows_at (n := n) (hollow := hollow) s (acc ++ [r]) k1 e2 (fun m hm => hl m (List.mem_cons_of_mem _ hm)) (fun q => by rw [List.length_append, List.length_singleton]; exact (hh1 q).2)
    refine ⟨k2, ?_, e4⟩
    rw [List.length_cons]
    unfold rowsR rowR wordR
    rw [h.word, if_pos rfl]
    rw [hr.1, List.nil_append] at e1
    show (cellsR L acc.length hollow n [] (k + 1)).nx _ = _
    rw [e1]
    show rowsR L n hollow s.length (acc ++ [r]) k1 = _
    rw [e3, List.append_assoc]
    rfl
theorem elems_at {z : Int} : ∀ (l acc : List Int) (least : Int) (k : Nat) (b : Nat × List UInt8 × Int) (B : List (Nat × List UInt8 × Int)), b.1 ≠ 1 → At L k (l.map nB ++ b :: B) → ris z least l = true → ∃ k', elemsG L z least acc k = .ok (acc ++ l) k' ∧ At L k' (b :: B)
  | [], acc, least, k, b, B, hb, h, _ => by
    have h : At L k (b :: B) := h
    rw [elemsG_eq hE z least acc h.lt, h.noN hb, List.append_nil]
    exact ⟨k, rfl, h⟩
  | n :: r, acc, least, k, b, B, hb, h, hr => by
    have h : At L k (nB n :: (r.map nB ++ b :: B)) := h
    simp only [ris, Bool.and_eq_true, decide_eq_true_eq] at hr
    obtain ⟨k', e1, e2⟩ := elems_at r (acc ++ [n]) (n + 1) (k + 1) b B hb h.next hr.2
    refine ⟨k', ?_, e2⟩
    rw [elemsG_eq hE z least acc h.lt, h.isN, if_pos rfl, h.num hr.1.1 (by omega)]
    show elemsG L z (n + 1) (acc ++ [n]) (k + 1) = _
    rw [e1, List.append_assoc]
    rfl
theorem sets_at {z : Int} : ∀ (l acc : List (Int × List Int)) (k : Nat), At L k (setsB l ++ [eB]) → (∀ s ∈ l, (0 ≤ s.1 ∧ s.1 ≤ 2147483648) ∧ ris z 0 s.2 = true) → acc.length + l.length ≤ 4096 → ∃ k', setsG L z acc k = .ok (acc ++ l) k' ∧ At L k' [eB]
  | [], acc, k, h, _, _ => by
    have h : At L k (eB :: []) := h
    rw [setsG_eq hE z acc h.lt, h.noW (by decide), List.append_nil]
    exact ⟨k, rfl, h⟩
  | s :: r, acc, k, h, hl, hn => by
    have e0 : setsB (s :: r) ++ [eB] = wB setW :: nB s.1 :: cB :: (s.2.map nB ++ (setsB r ++ [eB])) := by simp [setsB]
    rw [e0] at h
    have hs := hl s (List.mem_cons_self ..)
    rw [List.length_cons] at hn
    obtain ⟨b, B, hbB, hb⟩ : ∃ b B, setsB r ++ [eB] = b :: B ∧ b.1 ≠ 1 := by
      cases r with
      | nil => exact ⟨eB, [], rfl, by decide⟩
      | cons s' r' => exact ⟨wB setW, nB s'.1 :: cB :: (s'.2.map nB ++ setsB r') ++ [eB], rfl, by show (0 : Nat) ≠ 1; omega⟩
    have h3 := h.next.next.next
    rw [hbB] at h3
    obtain ⟨k1, e1, e2⟩ := elems_at hE (z := z) s.2 [] 0 (k + 1 + 1 + 1) b B hb h3 hs.2
    rw [← hbB] at e2
    rw [List.nil_append] at e1
    obtain ⟨k2, e3, e4⟩ := sets_at (z := z) r (acc ++ [s]) k1 e2 (fun q hq => hl q (List.mem_cons_of_mem _ hq)) (by simp; omega)
    obtain ⟨x, ex⟩ := h.next.next.tok
    have ex : tokR L 2 (k + 1 + 1) = .ok x (k + 1 + 1 + 1) := ex
    refine ⟨k2, ?_, e4⟩
    rw [setsG_eq hE z acc h.lt, h.word, if_pos rfl, if_neg (by omega), h.next.num hs.1.1 hs.1.2]
    show (tokR L 2 (k + 1 + 1)).nx _ = _
    rw [ex]
    show (elemsG L z 0 [] (k + 1 + 1 + 1)).nx _ = _
    rw [e1]
    show setsG L z (acc ++ [(s.1, s.2)]) k1 = _
    rw [show (s.1, s.2) = s from rfl, e3, List.append_assoc]
    rfl
theorem whole_at {I : In} (h : May I) (hA : At L 0 (instB I)) : ∃ k, wholeR L = .ok I k := by
  have fin : ∀ k', At L k' [eB] → instR L = .ok I k' → ∃ k, wholeR L = .ok I k := by
    intro k' h1 h2
    obtain ⟨x, ex⟩ := At.tok (b := eB) h1
    have ex : tokR L 3 k' = .ok x (k' + 1) := ex
    refine ⟨k' + 1, ?_⟩
    unfold wholeR
    rw [h2]
    show (tokR L 3 k').nx _ = _
    rw [ex]
    rfl
  unfold instB at hA
  by_cases h0 : I.kind = 0
  · rw [if_pos h0] at hA
    obtain ⟨z1, z2, z3⟩ := h.k0 h0
    obtain ⟨k', e1, e2⟩ := items_at hE I.items [] 3 hA.next.next.next h.items (by have := h.ilen; simpa using this)
    refine fin k' e2 ?_
    unfold instR
    rw [hA.word, if_pos rfl]
    unfold knapR wordR
    rw [hA.next.word, if_pos rfl]
    show (numR L 0 2147483648 22 (1 + 1)).nx _ = _
    rw [hA.next.next.num h.cap.1 h.cap.2]
    show (itemsG L [] 3).nx _ = _
    rw [e1]
    show Rd.ok (⟨0, I.cap, [] ++ I.items, [], 0, []⟩ : In) k' = _
    rw [List.nil_append]
    obtain ⟨a, b, c, d, e, f⟩ := I
    simp only at h0 z1 z2 z3
    rw [h0, z1, z2, z3]
  rw [if_neg h0] at hA
  by_cases h3 : I.kind = 3
  · rw [if_pos h3] at hA
    obtain ⟨z1, z2, z3⟩ := h.k3 h3
    obtain ⟨k', e1, e2⟩ := sets_at hE (z := I.size) I.sets [] 2 hA.next.next h.sets (by have := h.slen; simpa using this)
    refine fin k' e2 ?_
    unfold instR
    rw [hA.noword (t := kW) (by decide), hA.noword (t := aW) (by decide), hA.noword (t := tW) (by decide), hA.word, if_neg (by simp), if_neg (by simp), if_neg (by simp), if_pos rfl]
    unfold coverR
    rw [hA.next.num h.size.1 h.size.2]
    show (setsG L I.size [] 2).nx _ = _
    rw [e1]
    show Rd.ok (⟨3, 0, [], [], I.size, [] ++ I.sets⟩ : In) k' = _
    rw [List.nil_append]
    obtain ⟨a, b, c, d, e, f⟩ := I
    simp only at h3 z1 z2 z3
    rw [h3, z1, z2, z3]
  rw [if_neg h3] at hA
  have hk : I.kind = 1 ∨ I.kind = 2 := by have := h.kind; omega
  obtain ⟨z1, z2, z3, z4⟩ := h.k12 hk
  have hlen := h.sq hk
  have hmax := h.clen
  obtain ⟨k', e1, e2⟩ := rows_at (n := I.cost.length) (hollow := decide (I.kind = 2)) I.cost [] 2 hA.next.next h.cost (fun q => h.hol (by simpa using q))
  refine fin k' e2 ?_
  have e3 : squareR L I.kind 1 = .ok I k' := by
    unfold squareR
    rw [hA.next.num (by omega) (by omega)]
    show (rowsR L (I.cost.length : Int).toNat (decide (I.kind = 2)) (I.cost.length : Int).toNat [] 2).nx _ = _
    rw [Int.toNat_natCast, e1]
    show Rd.ok (⟨I.kind, 0, [], [] ++ I.cost, 0, []⟩ : In) k' = _
    rw [List.nil_append]
    obtain ⟨a, b, c, d, e, f⟩ := I
    simp only at z1 z2 z3 z4
    rw [z1, z2, z3, z4]
  unfold instR
  rcases hk with hk | hk
  · rw [if_pos hk] at hA
    rw [hk] at e3
    rw [hA.noword (t := kW) (by decide), hA.word, if_neg (by simp), if_pos rfl, e3]
  · rw [if_neg (by omega)] at hA
    rw [hk] at e3
    rw [hA.noword (t := kW) (by decide), hA.noword (t := aW) (by decide), hA.word, if_neg (by simp), if_neg (by simp), if_pos rfl, e3]
end
/-- P11.2: what is printed is parsed to the same instance. -/
theorem parse_show {I : In} (h : I.chk = 0) (hl : (instT I).length ≤ 1048576) : parseL (instT I) = ⟨I, 0, 0, 0⟩ := by
  have hm := In.chk_may h
  have hx := lexes_inst hm 1 1
  have el : lexP (instT I) = lx (instT I) 1 1 false := by unfold lexP; rw [if_neg (by omega)]
  have he : (lexP (instT I)).err = 0 := by rw [el]; exact hx.1
  have hE := endL_of he
  rw [← el] at hx
  unfold parseL
  rw [if_pos he]
  obtain ⟨k, hk⟩ := whole_at hE hm (show At (lexP (instT I)).toks 0 (instB I) from by unfold At; rw [List.drop_zero]; exact hx.2.1)
  rw [hk]
  rfl

/-! ### how long it is -/
theorem numT_len {n : Int} (hn : I64 n) : (numT n).length ≤ 22 := by
  have := Lib.itoa_length_le n hn.1 hn.2
  show (Lib.itoa n).length + 1 ≤ 22
  omega
theorem numsT_len : ∀ l : List Int, (∀ n ∈ l, I64 n) → (numsT l).length ≤ 22 * l.length
  | [], _ => Nat.le_refl _
  | n :: r, h => by
    have h1 := numT_len (h n (List.mem_cons_self ..))
    have h2 := numsT_len r (fun m hm => h m (List.mem_cons_of_mem _ hm))
    show (numT n ++ numsT r).length ≤ 22 * (r.length + 1)
    rw [List.length_append]
    omega
theorem itemsT_len : ∀ l : List (Int × Int), (∀ p ∈ l, I64 p.1 ∧ I64 p.2) → (itemsT l).length ≤ 50 * l.length
  | [], _ => Nat.le_refl _
  | p :: r, h => by
    have h1 := numT_len (h p (List.mem_cons_self ..)).1
    have h3 := numT_len (h p (List.mem_cons_self ..)).2
    have h2 := itemsT_len r (fun m hm => h m (List.mem_cons_of_mem _ hm))
    show (itemW ++ (numT p.1 ++ (numT p.2 ++ (10 :: itemsT r)))).length ≤ 50 * (r.length + 1)
    simp only [List.length_append, List.length_cons]
    have : itemW.length = 4 := rfl
    omega
theorem rowsT_len {m : Nat} : ∀ l : List (List Int), (∀ r ∈ l, r.length ≤ m ∧ ∀ n ∈ r, I64 n) → (rowsT l).length ≤ (22 * m + 4) * l.length
  | [], _ => Nat.le_refl _
  | r :: s, h => by
    have h1 := numsT_len r (h r (List.mem_cons_self ..)).2
    have h3 := (h r (List.mem_cons_self ..)).1
    have h2 := rowsT_len s (fun q hq => h q (List.mem_cons_of_mem _ hq))
    show (rowW ++ (numsT r ++ (10 :: rowsT s))).length ≤ (22 * m + 4) * (s.length + 1)
    simp only [List.length_append, List.length_cons]
    have : rowW.length = 3 := rfl
    rw [Nat.mul_add, Nat.mul_one]
    omega
theorem setsT_len {m : Nat} : ∀ l : List (Int × List Int), (∀ s ∈ l, s.2.length ≤ m ∧ I64 s.1 ∧ ∀ n ∈ s.2, I64 n) → (setsT l).length ≤ (22 * m + 27) * l.length
  | [], _ => Nat.le_refl _
  | s :: r, h => by
    have hs := h s (List.mem_cons_self ..)
    have h1 := numsT_len s.2 hs.2.2
    have h4 := numT_len hs.2.1
    have h3 := hs.1
    have h2 := setsT_len r (fun q hq => h q (List.mem_cons_of_mem _ hq))
    show (setW ++ (numT s.1 ++ (58 :: (numsT s.2 ++ (10 :: setsT r))))).length ≤ (22 * m + 27) * (r.length + 1)
    simp only [List.length_append, List.length_cons]
    have : setW.length = 3 := rfl
    rw [Nat.mul_add, Nat.mul_one]
    omega
theorem small_text {I : In} (h : I.chk = 0) (hs : I.Small) : (instT I).length ≤ 1048576 := by
  have hm := In.chk_may h
  unfold instT
  by_cases h0 : I.kind = 0
  · rw [if_pos h0]
    have h1 := itemsT_len I.items (fun p hp => by have := hm.items p hp; exact ⟨⟨by omega, by omega⟩, ⟨by omega, by omega⟩⟩)
    have h2 := numT_len (n := I.cap) (by have := hm.cap; exact ⟨by omega, by omega⟩)
    have h3 := hs.items
    simp only [List.length_append, List.length_cons]
    have : kW.length = 8 := rfl
    have : capW.length = 8 := rfl
    omega
  rw [if_neg h0]
  by_cases h3 : I.kind = 3
  · rw [if_pos h3]
    have h1 := setsT_len (m := 40) I.sets (fun s q => by
      have := hm.sets s q
      refine ⟨hs.elems s q, ⟨by omega, by omega⟩, fun n hn => ?_⟩
      have h5 := ris_in _ _ this.2 n hn
      have h6 := hm.size
      exact ⟨by omega, by omega⟩)
    have h2 := numT_len (n := I.size) (by have := hm.size; exact ⟨by omega, by omega⟩)
    have h4 := hs.sets
    simp only [List.length_append, List.length_cons]
    have : cW.length = 5 := rfl
    omega
  rw [if_neg h3]
  have h1 := rowsT_len (m := 70) I.cost (fun r q => ⟨hs.rows r q, fun n hn => by have := (hm.cost r q).2 n hn; exact ⟨by omega, by omega⟩⟩)
  have h2 := numT_len (n := (I.cost.length : Int)) (by have := hm.clen; exact ⟨by omega, by omega⟩)
  have h4 := hs.cost
  have h5 : (if I.kind = 1 then aW else tW).length ≤ 10 := by split <;> decide
  simp only [List.length_append, List.length_cons]
  omega
theorem prE_small {I : In} (hs : I.Small) : prE I = I.chk := by
  unfold prE
  by_cases h : I.chk = 0
  · rw [if_pos h, if_pos (small_text h hs), h]
  · rw [if_neg h]
theorem prT_good {I : In} (h : I.chk = 0) (hs : I.Small) : prT I = instT I := by
  unfold prT
  rw [prE_small hs, if_pos h]
/-- Two have the same text just if they are the same. -/
theorem text_inj {I J : In} (h1 : I.chk = 0) (h2 : J.chk = 0) (s1 : I.Small) (s2 : J.Small) : instT I = instT J ↔ I = J := by
  refine ⟨fun h => ?_, fun h => by rw [h]⟩
  have e1 := parse_show h1 (small_text h1 s1)
  have e2 := parse_show h2 (small_text h2 s2)
  rw [h, e2] at e1
  exact (congrArg Ps.inst e1).symm
end Go.Proofs.YtbadingdklenhaaGreatDoor
