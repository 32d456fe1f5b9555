/- CodeNums: the law's walk. -/
import Derived.Test.YteagmdnpajalgaaCodeC
import Derived.Test.YteagmdnpajalgaaBase
namespace Go.Proofs.Yteagmdnpajalgaa
open Go.RowKit

theorem rd_be8 (n : Nat) (hn : n < 18446744073709551616) : rd (be8 n) = n := by
  simp only [be8, rd, List.foldl, UInt8.toNat_ofNat', Nat.zero_mul, Nat.zero_add]
  omega

end Go.Proofs.Yteagmdnpajalgaa
