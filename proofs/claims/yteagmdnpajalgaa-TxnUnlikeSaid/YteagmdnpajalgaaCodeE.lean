/- Walks: what scanning finds. -/
import Derived.Test.YteagmdnpajalgaaCodeD
import Derived.Test.YteagmdnpajalgaaCln
namespace Go.Proofs.Yteagmdnpajalgaa
open Go.RowKit

theorem bs_data (s : ByteArray) : bs s.data.toList = s := Lib.mk_data s

def ffVal : Option (List UInt8) → Value
  | none => .tuple #[.string ⟨#[]⟩, .bool false]
  | some b => .tuple #[.string (bs b), .bool true]
/-- A quiet callee in a region behind earlier draws. -/
theorem quietMore {P : Program} {f : FuncId} {args : Array Value} {w : World} {a n : Nat} {v : Value} (h : ∀ k, Calls P f args (w.drewN k) fun e w' => e = .returned v ∧ ∃ m, w' = (w.drewN k).drewN m) :
    Calls P f args (w.drewN (a + n)) fun e w'' => e = .returned v ∧ ∃ m, w'' = w.drewN (a + m) :=
  (h (a + n)).mono fun _ _ ⟨he, m, hm⟩ => ⟨he, n + m, by rw [hm, World.drewN_drewN, Nat.add_assoc]⟩
end Go.Proofs.Yteagmdnpajalgaa
