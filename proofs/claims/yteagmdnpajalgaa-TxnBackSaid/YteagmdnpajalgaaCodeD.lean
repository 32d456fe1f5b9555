/- Walks: the document's sum, bit by bit; frames. -/
import Derived.Test.YteagmdnpajalgaaCodeC
import Derived.Test.YteagmdnpajalgaaBase
namespace Go.Proofs.Yteagmdnpajalgaa
open Go.RowKit

theorem bitSteps_snoc (j d : Nat) : Crc.bitSteps (j + 1) d = Crc.bitStep (Crc.bitSteps j d) := Crc.bitSteps_add j 1 d
theorem bitSteps_lt (j : Nat) : ∀ {d : Nat}, d < 4294967296 → Crc.bitSteps j d < 4294967296 := by
  induction j with
  | zero => intro d h; exact h
  | succ j ih => intro d h; exact ih (Crc.bitStep_lt h)
theorem and1_u32 (c : Nat) (hc : c < 4294967296) : bits .and .u32 (c : Int) 1 = ((c % 2 : Nat) : Int) := by
  have := and_u32 c 1 hc (by decide)
  rw [show c &&& 1 = c % 2 from Nat.and_one_is_mod c] at this
  exact this

/-- A frame as the document has it. -/
def frameB (s : ByteArray) : ByteArray := bs (be4 s.size) ++ bs (be4 (Crc.sum (be4 s.size ++ s.data.toList))) ++ s
theorem append_size (a b : ByteArray) : (a ++ b).size = a.size + b.size := ByteArray.size_append
theorem append_data (a b : ByteArray) : (a ++ b).data.toList = a.data.toList ++ b.data.toList := by
  rw [ByteArray.data_append, Array.toList_append]
end Go.Proofs.Yteagmdnpajalgaa
