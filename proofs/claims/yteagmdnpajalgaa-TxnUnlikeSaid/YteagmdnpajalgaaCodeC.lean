/- Walks: the document's ReadNum, the fixed fact of the laws. -/
import Derived.Test.YteagmdnpajalgaaCodeB
import Derived.Lib.Strings
namespace Go.Proofs.Yteagmdnpajalgaa
open Go.RowKit

theorem or_rd8 (x y : Nat) (hx : x < 4294967296) (hy : y < 4294967296) :
    bits .or .u64 ((x : Int) * 4294967296) (y : Int) = ((x * 4294967296 + y : Nat) : Int) := by
  rw [show ((x : Int) * 4294967296) = ((x * 4294967296 : Nat) : Int) from by omega, bits_or_u64_nat _ _ (by omega) (by omega)]
  have := Nat.two_pow_add_eq_or_of_lt (i := 32) (b := y) (by omega) x
  rw [show 2 ^ 32 * x = x * 4294967296 from by omega] at this
  rw [← this]
theorem rd_halves {s : ByteArray} (h8 : s.size = 8) : rdS (s.extract 0 4).data.toList * 4294967296 + rdS (s.extract 4 s.size).data.toList = rd s.data.toList := by
  rw [Lib.extract_data, Lib.extract_data, h8]
  obtain ⟨a, b, c, d, e, f, g, i, hl⟩ := list8 (l := s.data.toList) (by rw [Array.length_toList]; exact h8)
  rw [hl]
  simp only [List.drop, List.take, rdS, rd, List.foldl, rd4]
  omega
end Go.Proofs.Yteagmdnpajalgaa
