/-
  What package inst's isBounded does (layer 9).
-/
import Derived.Test.YtbadingdklenhaaDoorInstForm
namespace Go.Proofs.YtbadingdklenhaaDoor
set_option maxRecDepth 100000
open Go.RowKit

/-- What isBounded asks of each list. -/
def itemsOk (l : List (Int × Int)) : Bool := l.all (fun p => amt p.1 && amt p.2)
def costOk (l : List (List Int)) : Bool := l.all (fun r => r.all mag)
def setsOk (l : List (Int × List Int)) : Bool := l.all (fun s => amt s.1)
theorem fine_eq (I : In) : I.fine = (amt I.cap && (itemsOk I.items && (costOk I.cost && setsOk I.sets))) := rfl
theorem itemsOk_drop {l : List (Int × Int)} {k : Nat} {x : Int × Int} (h : l[k]? = some x) : itemsOk (l.drop k) = ((amt x.1 && amt x.2) && itemsOk (l.drop (k + 1))) := all_drop h
theorem costOk_drop {l : List (List Int)} {k : Nat} {x : List Int} (h : l[k]? = some x) : costOk (l.drop k) = (x.all mag && costOk (l.drop (k + 1))) := all_drop h
theorem setsOk_drop {l : List (Int × List Int)} {k : Nat} {x : Int × List Int} (h : l[k]? = some x) : setsOk (l.drop k) = (amt x.1 && setsOk (l.drop (k + 1))) := all_drop h
theorem itemsOk_done {l : List (Int × Int)} : itemsOk (l.drop l.length) = true := all_done
theorem costOk_done {l : List (List Int)} : costOk (l.drop l.length) = true := all_done
theorem setsOk_done {l : List (Int × List Int)} : setsOk (l.drop l.length) = true := all_done

end Go.Proofs.YtbadingdklenhaaDoor
