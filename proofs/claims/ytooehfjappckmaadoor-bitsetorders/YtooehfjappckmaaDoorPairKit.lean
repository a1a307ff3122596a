/-
  Two sets and the document's two, side by side: what the laws on two sets keep.
-/
import Derived.Test.YtooehfjappckmaaDoorEachWalks
import Derived.Test.YtooehfjappckmaaDoorWithinWalks
import Derived.Test.YtooehfjappckmaaDoorWakeWalks
namespace Go.Proofs.YtooehfjappckmaaDoor
set_option maxRecDepth 100000
open Go.RowKit

structure Two (w : World) (n m : Nat) (p q : Nat → Bool) (ba bb : Nat) (xa : Option Addr) (ca : Nat) (xb : Option Addr) (cb : Nat) (ya : Option Addr) (da : Nat) (yb : Option Addr) (db : Nat) (wr : World) : Prop where
  mk ::
  A : SBox ba (.int .i64 n) (.slice xa (nw n) ca) wr
  B : SBox bb (.int .i64 m) (.slice xb (nw m) cb) wr
  SA : SetAt wr n p xa ca
  SB : SetAt wr m q xb cb
  X : BoolsAt wr ya da n p
  Y : BoolsAt wr yb db m q
  ok : LibOk wr
  be : Below w.heap.size w wr
theorem Two.next {w wr w' : World} {n m : Nat} {p q : Nat → Bool} {ba bb : Nat} {xa : Option Addr} {ca : Nat} {xb : Option Addr} {cb : Nat} {ya : Option Addr} {da : Nat} {yb : Option Addr} {db : Nat}
    (h : Two w n m p q ba bb xa ca xb cb ya da yb db wr) (hb : Below wr.heap.size wr w') : Two w n m p q ba bb xa ca xb cb ya da yb db w' :=
  ⟨h.A.next hb, h.B.next hb, h.SA.below hb, h.SB.below hb, h.X.below hb, h.Y.below hb, h.ok.below hb, on h.be hb⟩
theorem Two.cells {w wr : World} {n m : Nat} {p q : Nat → Bool} {ba bb : Nat} {xa : Option Addr} {ca : Nat} {xb : Option Addr} {cb : Nat} {ya : Option Addr} {da : Nat} {yb : Option Addr} {db : Nat}
    (h : Two w n m p q ba bb xa ca xb cb ya da yb db wr) : wr.cell? ⟨ba, 0, none⟩ = some (.int .i64 n) ∧ wr.cell? ⟨ba, 1, none⟩ = some (.slice xa (nw n) ca) ∧ wr.cell? ⟨bb, 0, none⟩ = some (.int .i64 m) ∧ wr.cell? ⟨bb, 1, none⟩ = some (.slice xb (nw m) cb) :=
  ⟨h.A.c0, h.A.c1, h.B.c0, h.B.c1⟩

theorem orP_out (n : Nat) (p q : Nat → Bool) : ∀ i, n ≤ i → orP n p q i = false := fun i hi => by unfold orP; rw [decide_eq_false (by omega)]; rfl
theorem andP_out (n : Nat) (p q : Nat → Bool) : ∀ i, n ≤ i → andP n p q i = false := fun i hi => by unfold andP; rw [decide_eq_false (by omega)]; rfl
theorem lessP_out (n : Nat) (p q : Nat → Bool) : ∀ i, n ≤ i → lessP n p q i = false := fun i hi => by unfold lessP; rw [decide_eq_false (by omega)]; rfl
theorem wi_int (n : Nat) (p q : Nat → Bool) : (((lst (lessP n p q) n).length : Int) == 0) = wi n p q := by
  unfold wi
  cases h : (lst (lessP n p q) n).length with
  | zero => rfl
  | succ k => simp; omega
end Go.Proofs.YtooehfjappckmaaDoor
