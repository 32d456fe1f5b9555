/- Plain: fields as bytes, and what is no longer than the limits. -/
import Derived.Test.YteagmdnpajalgaaCodeD
import Derived.Test.YteagmdnpajalgaaSV
import Derived.Test.YteagmdnpajalgaaLibB
namespace Go.Proofs.Yteagmdnpajalgaa
open Go.RowKit

/-- How many bytes the fields take behind the count. -/
def tot : List ByteArray → Nat
  | [] => 0
  | s :: r => 4 + s.size + tot r
def flat : List ByteArray → List UInt8
  | [] => []
  | s :: r => be4 s.size ++ (s.data.toList ++ flat r)
def packL (L : List ByteArray) : List UInt8 := be4 L.length ++ flat L
def okPack (L : List ByteArray) : Prop := L.length ≤ 4096 ∧ (∀ s ∈ L, s.size ≤ 65536) ∧ 4 + tot L ≤ 1048576
/-- What Pack answers. -/
noncomputable def packVal (L : List ByteArray) : Value := by
  classical exact if okPack L then .tuple #[.string (bs (packL L)), .int .i64 0] else .tuple #[.string ⟨#[]⟩, .int .i64 2]
theorem packVal_yes {L : List ByteArray} (h : okPack L) : packVal L = .tuple #[.string (bs (packL L)), .int .i64 0] := by unfold packVal; rw [if_pos h]
theorem packVal_no {L : List ByteArray} (h : ¬ okPack L) : packVal L = .tuple #[.string ⟨#[]⟩, .int .i64 2] := by unfold packVal; rw [if_neg h]

theorem tot_append (a b : List ByteArray) : tot (a ++ b) = tot a + tot b := by
  induction a with
  | nil => simp [tot]
  | cons x a ih => simp only [List.cons_append, tot, ih]; omega
theorem tot_take_le (L : List ByteArray) (k : Nat) : tot (L.take k) ≤ tot L := by
  have := tot_append (L.take k) (L.drop k)
  rw [List.take_append_drop] at this
  omega
theorem tot_take_succ (L : List ByteArray) (k : Nat) (h : k < L.length) : tot (L.take (k + 1)) = tot (L.take k) + (4 + L[k].size) := by
  rw [List.take_succ_eq_append_getElem h, tot_append]; simp [tot]
theorem flat_append (a b : List ByteArray) : flat (a ++ b) = flat a ++ flat b := by
  induction a with
  | nil => rfl
  | cons x a ih => simp only [List.cons_append, flat, ih, List.append_assoc]
theorem flat_take_succ (L : List ByteArray) (k : Nat) (h : k < L.length) : flat (L.take (k + 1)) = flat (L.take k) ++ (be4 L[k].size ++ L[k].data.toList) := by
  rw [List.take_succ_eq_append_getElem h, flat_append]; simp [flat]
theorem be4_length (n : Nat) : (be4 n).length = 4 := rfl
theorem flat_length (L : List ByteArray) : (flat L).length = tot L := by
  induction L with
  | nil => rfl
  | cons x a ih => simp only [flat, tot, List.length_append, be4_length, ih, ← Lib.size_eq]; omega
theorem packL_length (L : List ByteArray) : (packL L).length = 4 + tot L := by
  unfold packL; rw [List.length_append, be4_length, flat_length]
theorem tot_bound (L : List ByteArray) (k : Nat) (h : ∀ s ∈ L, s.size ≤ k) : tot L ≤ (4 + k) * L.length := by
  induction L with
  | nil => exact Nat.zero_le _
  | cons x a ih =>
    have h1 := h x (by simp)
    have h2 := ih (fun s hs => h s (by simp [hs]))
    simp only [tot, List.length_cons]
    rw [Nat.mul_succ]
    omega

theorem BuilderAt.gr {T e : TypeId} {B b : Nat} {p : Value} {l : List Value} {w w' : World} (h : Lib.BuilderAt T e B b p l w) (g : Gr w w') : Lib.BuilderAt T e B b p l w' := by
  obtain ⟨h1, v, h2, h3, h4⟩ := h
  refine ⟨h1, v, ?_, own_gr h3 g, h4⟩
  rw [g.block b (Array.getElem?_eq_some_iff.1 h2).1]
  exact h2
end Go.Proofs.Yteagmdnpajalgaa
