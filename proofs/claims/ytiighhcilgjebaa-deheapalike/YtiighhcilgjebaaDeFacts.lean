/-
  Closed facts of the program's tables (layer 7): which function a method of either heap is, which kind an interface value holds, what a method expression calls.
-/
import Derived.Test.YtiighhcilgjebaaDeKit
import Derived.KernelRfl
namespace Go.Proofs.Ytiighhcilgjebaa
set_option maxRecDepth 100000

theorem methMLen (hb : Nat) (w : World) : (method 250 84 (.pointer (some ⟨hb, 0, none⟩)) "Len").run Try.prog w = .ok (112, .pointer (some ⟨hb, 0, none⟩)) w := by kernel_rfl
theorem methILen (hb : Nat) (w : World) : (method 250 82 (.pointer (some ⟨hb, 0, none⟩)) "Len").run Try.prog w = .ok (100, .pointer (some ⟨hb, 0, none⟩)) w := by kernel_rfl
theorem methMList (hb : Nat) (w : World) : (method 250 84 (.pointer (some ⟨hb, 0, none⟩)) "List").run Try.prog w = .ok (113, .pointer (some ⟨hb, 0, none⟩)) w := by kernel_rfl
theorem methIList (hb : Nat) (w : World) : (method 250 82 (.pointer (some ⟨hb, 0, none⟩)) "List").run Try.prog w = .ok (101, .pointer (some ⟨hb, 0, none⟩)) w := by kernel_rfl
theorem methMMax (hb : Nat) (w : World) : (method 250 84 (.pointer (some ⟨hb, 0, none⟩)) "Max").run Try.prog w = .ok (114, .pointer (some ⟨hb, 0, none⟩)) w := by kernel_rfl
theorem methIMax (hb : Nat) (w : World) : (method 250 82 (.pointer (some ⟨hb, 0, none⟩)) "Max").run Try.prog w = .ok (102, .pointer (some ⟨hb, 0, none⟩)) w := by kernel_rfl
theorem methMMin (hb : Nat) (w : World) : (method 250 84 (.pointer (some ⟨hb, 0, none⟩)) "Min").run Try.prog w = .ok (115, .pointer (some ⟨hb, 0, none⟩)) w := by kernel_rfl
theorem methIMin (hb : Nat) (w : World) : (method 250 82 (.pointer (some ⟨hb, 0, none⟩)) "Min").run Try.prog w = .ok (103, .pointer (some ⟨hb, 0, none⟩)) w := by kernel_rfl
theorem methMPopMax (hb : Nat) (w : World) : (method 250 84 (.pointer (some ⟨hb, 0, none⟩)) "PopMax").run Try.prog w = .ok (116, .pointer (some ⟨hb, 0, none⟩)) w := by kernel_rfl
theorem methIPopMax (hb : Nat) (w : World) : (method 250 82 (.pointer (some ⟨hb, 0, none⟩)) "PopMax").run Try.prog w = .ok (104, .pointer (some ⟨hb, 0, none⟩)) w := by kernel_rfl
theorem methMPopMin (hb : Nat) (w : World) : (method 250 84 (.pointer (some ⟨hb, 0, none⟩)) "PopMin").run Try.prog w = .ok (117, .pointer (some ⟨hb, 0, none⟩)) w := by kernel_rfl
theorem methIPopMin (hb : Nat) (w : World) : (method 250 82 (.pointer (some ⟨hb, 0, none⟩)) "PopMin").run Try.prog w = .ok (105, .pointer (some ⟨hb, 0, none⟩)) w := by kernel_rfl
theorem methMPush (hb : Nat) (w : World) : (method 250 84 (.pointer (some ⟨hb, 0, none⟩)) "Push").run Try.prog w = .ok (118, .pointer (some ⟨hb, 0, none⟩)) w := by kernel_rfl
theorem methIPush (hb : Nat) (w : World) : (method 250 82 (.pointer (some ⟨hb, 0, none⟩)) "Push").run Try.prog w = .ok (106, .pointer (some ⟨hb, 0, none⟩)) w := by kernel_rfl
theorem isI (hb : Nat) (w : World) : (Instr.typeAssert (.iface 82 (.pointer (some ⟨hb, 0, none⟩))) 63 82 true).run Try.prog w = .ok (.tuple #[.pointer (some ⟨hb, 0, none⟩), .bool true]) w := by kernel_rfl
theorem isM (hb : Nat) (w : World) : (Instr.typeAssert (.iface 84 (.pointer (some ⟨hb, 0, none⟩))) 63 82 true).run Try.prog w = .ok (.tuple #[.pointer none, .bool false]) w := by kernel_rfl
end Go.Proofs.Ytiighhcilgjebaa
