/-
  Lists of truths and of numbers in memory: what the document's own sets and the lists of both are.
-/
import Derived.Test.YtooehfjappckmaaDoorNextWalks2
namespace Go.Proofs.YtooehfjappckmaaDoor
set_option maxRecDepth 100000
open Go.RowKit

theorem infoI : (Tryd.prog.info? 3).map (fun i => (i.zero, i.size, i.bytes)) = some (some (.int .i64 0), 1, 8) := by kernel_rfl
theorem infoB : (Tryd.prog.info? 4).map (fun i => (i.zero, i.size, i.bytes)) = some (some (.bool false), 1, 1) := by kernel_rfl

/-- The truths of the numbers below n, in memory. -/
def BoolsAt (w : World) (x : Option Addr) (cap n : Nat) (q : Nat → Bool) : Prop :=
  (x = none ∧ cap = 0 ∧ n = 0) ∨
  ∃ b, x = some ⟨b, 0, none⟩ ∧ b < w.heap.size ∧ n ≤ cap ∧ cap ≤ maxLen ∧ ∀ i, i < n → w.cell? ⟨b, i, none⟩ = some (.bool (q i))
theorem BoolsAt.below {w w' : World} {x : Option Addr} {cap n : Nat} {q : Nat → Bool} (h : BoolsAt w x cap n q) (hb : Below w.heap.size w w') : BoolsAt w' x cap n q := by
  rcases h with h | ⟨b, h1, h2, h3, h4, h5⟩
  · exact Or.inl h
  · exact Or.inr ⟨b, h1, Nat.lt_of_lt_of_le h2 hb.size, h3, h4, fun i hi => by rw [hb.cell (by exact h2)]; exact h5 i hi⟩
theorem BoolsAt.at {w : World} {x : Option Addr} {cap n : Nat} {q : Nat → Bool} (h : BoolsAt w x cap n q) {k : Nat} (hk : k < n) : ∃ b, x = some ⟨b, 0, none⟩ ∧ b < w.heap.size ∧ w.cell? ⟨b, k, none⟩ = some (.bool (q k)) := by
  rcases h with ⟨_, _, h⟩ | ⟨b, h1, h2, h3, h4, h5⟩
  · omega
  · exact ⟨b, h1, h2, h5 k hk⟩
theorem BoolsAt.cap_ok {w : World} {x : Option Addr} {cap n : Nat} {q : Nat → Bool} (h : BoolsAt w x cap n q) : n ≤ cap ∧ cap ≤ maxLen := by
  rcases h with ⟨_, h1, h2⟩ | ⟨b, h1, h2, h3, h4, h5⟩
  · subst h1 h2; exact ⟨Nat.le_refl _, Nat.zero_le _⟩
  · exact ⟨h3, h4⟩
theorem BoolsAt.congr {w : World} {x : Option Addr} {cap n : Nat} {q q' : Nat → Bool} (h : BoolsAt w x cap n q) (he : ∀ i, i < n → q i = q' i) : BoolsAt w x cap n q' := by
  rcases h with h | ⟨b, h1, h2, h3, h4, h5⟩
  · exact Or.inl h
  · exact Or.inr ⟨b, h1, h2, h3, h4, fun i hi => by rw [h5 i hi, he i hi]⟩

/-- Numbers in memory. -/
def NumsAt (w : World) (x : Option Addr) (cap : Nat) (l : List Nat) : Prop :=
  (x = none ∧ cap = 0 ∧ l = []) ∨
  ∃ b, x = some ⟨b, 0, none⟩ ∧ b < w.heap.size ∧ l.length ≤ cap ∧ cap ≤ maxLen ∧ ∀ i, i < l.length → w.cell? ⟨b, i, none⟩ = some (.int .i64 ((l.getD i 0 : Nat) : Int))
theorem NumsAt.below {w w' : World} {x : Option Addr} {cap : Nat} {l : List Nat} (h : NumsAt w x cap l) (hb : Below w.heap.size w w') : NumsAt w' x cap l := by
  rcases h with h | ⟨b, h1, h2, h3, h4, h5⟩
  · exact Or.inl h
  · exact Or.inr ⟨b, h1, Nat.lt_of_lt_of_le h2 hb.size, h3, h4, fun i hi => by rw [hb.cell (by exact h2)]; exact h5 i hi⟩
theorem NumsAt.at {w : World} {x : Option Addr} {cap : Nat} {l : List Nat} (h : NumsAt w x cap l) {k : Nat} (hk : k < l.length) : ∃ b, x = some ⟨b, 0, none⟩ ∧ b < w.heap.size ∧ w.cell? ⟨b, k, none⟩ = some (.int .i64 ((l.getD k 0 : Nat) : Int)) := by
  rcases h with ⟨_, _, h⟩ | ⟨b, h1, h2, h3, h4, h5⟩
  · rw [h] at hk; simp at hk
  · exact ⟨b, h1, h2, h5 k hk⟩
theorem NumsAt.cap_ok {w : World} {x : Option Addr} {cap : Nat} {l : List Nat} (h : NumsAt w x cap l) : l.length ≤ cap ∧ cap ≤ maxLen := by
  rcases h with ⟨_, h1, h2⟩ | ⟨b, h1, h2, h3, h4, h5⟩
  · subst h1 h2; exact ⟨Nat.le_refl _, Nat.zero_le _⟩
  · exact ⟨h3, h4⟩

/-- The cells of truths; of numbers. -/
def bl (q : Nat → Bool) : Nat → List Value
  | 0 => []
  | k + 1 => bl q k ++ [.bool (q k)]
theorem bl_len (q : Nat → Bool) (k : Nat) : (bl q k).length = k := by
  induction k with
  | zero => rfl
  | succ k ih => simp [bl, ih]
theorem bl_get (q : Nat → Bool) {k i : Nat} (h : i < k) : (bl q k)[i]? = some (.bool (q i)) := by
  induction k with
  | zero => omega
  | succ k ih =>
    rw [bl]
    by_cases e : i < k
    · rw [List.getElem?_append_left (by rw [bl_len]; exact e)]; exact ih e
    · obtain rfl : i = k := by omega
      rw [List.getElem?_append_right (by rw [bl_len]; omega), bl_len]; simp
def nl (l : List Nat) : List Value := l.map fun u : Nat => Value.int .i64 (u : Int)

theorem bools_of_owns {w : World} {base n : Nat} {v : Value} {q : Nat → Bool} (h : w.ownsRow base 4 1 v n (bl q n)) : ∃ x cap, v = .slice x n cap ∧ BoolsAt w x cap n q := by
  have hh := h
  obtain ⟨h1, ⟨h2, h3⟩ | ⟨g, cap, cur, h2, h3, h4, h5, h6, h7, h8⟩⟩ := h
  · subst h3; exact ⟨none, 0, h2, Or.inl ⟨rfl, rfl, rfl⟩⟩
  · subst h2
    refine ⟨some ⟨g, 0, none⟩, cap, rfl, Or.inr ⟨g, rfl, (Array.getElem?_eq_some_iff.1 h4).1, h5, h6, fun i hi => ?_⟩⟩
    rw [World.ownsRow.cellAt hh i (by omega)]; exact bl_get q hi
theorem nums_of_owns {w : World} {base : Nat} {v : Value} {l : List Nat} (h : w.ownsRow base 3 1 v l.length (nl l)) : ∃ x cap, v = .slice x l.length cap ∧ NumsAt w x cap l := by
  have hh := h
  obtain ⟨h1, ⟨h2, h3⟩ | ⟨g, cap, cur, h2, h3, h4, h5, h6, h7, h8⟩⟩ := h
  · exact ⟨none, 0, by rw [h3]; exact h2, Or.inl ⟨rfl, rfl, List.eq_nil_of_length_eq_zero h3⟩⟩
  · subst h2
    refine ⟨some ⟨g, 0, none⟩, cap, rfl, Or.inr ⟨g, rfl, (Array.getElem?_eq_some_iff.1 h4).1, h5, h6, fun i hi => ?_⟩⟩
    rw [World.ownsRow.cellAt hh i (by omega)]
    simp [nl, List.getD_eq_getElem?_getD, hi]

theorem lst_at {p : Nat → Bool} {n i : Nat} (h : i < (lst p n).length) : (lst p n).getD i 0 < n := by
  rw [List.getD_eq_getElem?_getD, List.getElem?_eq_getElem h]; exact lst_lt (List.getElem_mem h)
/-- The step of an append in a loop: the row grew. -/
theorem grow_step {W wr w1 : World} {B : Nat} {d : Value} {o : Obj} {e : TypeId} {n : Nat} {xs : List Value} (hown : wr.ownsRow B e 1 d n xs) (hgrow : (wr.alloc o).grownBy w1 d.ownBlock) (hbel : Below B W wr) (hW : B ≤ wr.heap.size) : Below B W w1 :=
  (hbel.alloc hW _).grown hgrow (by simp; omega) (fun g hg => (hown.lt g hg).1)
theorem SBox.low {b B : Nat} {u v : Value} {w w' : World} (h : SBox b u v w) (hb : Below B w w') (hB : b < B) : SBox b u v w' := h.kept (hb.block b hB)
end Go.Proofs.YtooehfjappckmaaDoor
