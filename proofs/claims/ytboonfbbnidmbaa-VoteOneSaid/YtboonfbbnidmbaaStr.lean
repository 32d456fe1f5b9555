/- When two strings are equal. It names no program. -/
import GoSem.Op.String
import Derived.Laws.Strings
namespace Go.Proofs.Ytboonfbbnidmbaa

def eqS (x y : ByteArray) : Bool := x.toList == y.toList
theorem eqS_iff {x y : ByteArray} : eqS x y = true ↔ x = y := by
  unfold eqS
  rw [beq_iff_eq]
  refine ⟨fun h => ?_, fun h => by rw [h]⟩
  rw [ByteArray.toList_eq, ByteArray.toList_eq] at h
  exact ByteArray.ext (Array.toList_inj.1 h)
theorem eqS_self (x : ByteArray) : eqS x x = true := eqS_iff.2 rfl

end Go.Proofs.Ytboonfbbnidmbaa
