/- Walks: scanning. -/
import Derived.Test.YteagmdnpajalgaaCodeE
import Derived.Test.YteagmdnpajalgaaSV
namespace Go.Proofs.Yteagmdnpajalgaa
open Go.RowKit

theorem extract_drop (s : ByteArray) (k : Nat) : (s.extract k s.size).data.toList = s.data.toList.drop k := by
  rw [Lib.extract_data, List.take_of_length_le (by simp)]
theorem append_ones (L : List (List UInt8)) (b : List UInt8) : (L ++ [b]).map bs = L.map bs ++ [bs b] := by simp
def ScanRel (s : ByteArray) (w : World) (v i : Value) (wr : World) : Prop :=
  ∃ (L : List (List UInt8)), i = .int .i64 (bytesOf L : Nat) ∧ wr.ownsRow w.heap.size 9 1 v (L.map bs).length ((L.map bs).map Value.string) ∧ Gr w wr ∧ bytesOf L ≤ s.size ∧
    scanAll s.data.toList = L ++ scanAll (s.data.toList.drop (bytesOf L))

end Go.Proofs.Yteagmdnpajalgaa
