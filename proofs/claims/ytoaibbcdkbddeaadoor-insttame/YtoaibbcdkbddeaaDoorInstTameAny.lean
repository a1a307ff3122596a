/-
  What the laws' tame does (layer 9), whatever the kind: an instance that may be, with short lists.
-/
import Derived.Test.YtoaibbcdkbddeaaDoorInstTameK
import Derived.Test.YtoaibbcdkbddeaaDoorInstTameQ
import Derived.Test.YtoaibbcdkbddeaaDoorInstTameS
namespace Go.Proofs.YtoaibbcdkbddeaaDoor

theorem tame_any (I : In) (v : Value) (w : World) (h : Ins (fun _ => True) (fun _ => True) w v I) : Calls Tryd.prog 7 #[v, .int .i64 9] w (IsTame w) := by
  rcases kind_four I.kind with hk | hk | hk | hk
  · exact tameK_any I v w h hk
  · exact tameQ_any I v w h 1 hk (.inl rfl)
  · exact tameQ_any I v w h 2 hk (.inr rfl)
  · exact tameS_any I v w h hk
end Go.Proofs.YtoaibbcdkbddeaaDoor
