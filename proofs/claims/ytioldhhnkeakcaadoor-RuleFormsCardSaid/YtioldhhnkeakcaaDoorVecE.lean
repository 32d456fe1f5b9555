/- When two vectors are equal, as the model's comparison tells. -/
import Derived.Test.YtioldhhnkeakcaaDoorVecA
import Derived.ChangeKeysEq
import Derived.Laws.StructEq
namespace Go.Proofs.YtioldhhnkeakcaaDoor
open Go.RowKit

def eqB (f g : Nat → Nat) : Bool := (List.range 8).all fun i => f i == g i
theorem eqB_iff {f g : Nat → Nat} : eqB f g = true ↔ ∀ k, k < 8 → f k = g k := by simp [eqB]
theorem eqB_self (f : Nat → Nat) : eqB f f = true := eqB_iff.2 fun _ _ => rfl
theorem eqB_of {f g : Nat → Nat} (h : ∀ k, f k = g k) : eqB f g = true := eqB_iff.2 fun k _ => h k
theorem part_v (f : Nat → Nat) {i : Nat} (hi : i < 8) (w : World) : (part 43 (vcells f) (i * 1)).run Tryd.prog w = .ok (.int .u64 (f i : Int)) w := by
  match i, hi with
  | 0, _ => show _ = _; kernel_rfl
  | 1, _ => show _ = _; kernel_rfl
  | 2, _ => show _ = _; kernel_rfl
  | 3, _ => show _ = _; kernel_rfl
  | 4, _ => show _ = _; kernel_rfl
  | 5, _ => show _ = _; kernel_rfl
  | 6, _ => show _ = _; kernel_rfl
  | 7, _ => show _ = _; kernel_rfl
theorem eqItems_v (f g : Nat → Nat) (w : World) : ∀ (is : List Nat), (∀ i ∈ is, i < 8) → (Op.eqItems 9999 43 1 (vcells f) (vcells g) is).run Tryd.prog w = .ok (is.all fun i => f i == g i) w
  | [], _ => rfl
  | i :: is, h => by
    have hi := h i (by simp)
    have ih := eqItems_v f g w is (fun j hj => h j (by simp [hj]))
    simp only [Op.eqItems, Sem.run_bind, part_v f hi, part_v g hi, Result.andThen_ok, run_equalIn_int w 9998 43 .u64 .u64 _ _ Tryd.underlying43]
    by_cases e : f i = g i
    · simp [e, ih]
    · have e' : ¬ ((f i : Int) = (g i : Int)) := by omega
      simp [e, e']
theorem info22 : ∃ i, Tryd.prog.info? 43 = some i := by
  cases h : Tryd.prog.info? 43 with
  | some i => exact ⟨i, rfl⟩
  | none => exact absurd h (by have : (Tryd.prog.info? 43).isSome = true := by kernel_rfl
                               intro e; rw [e] at this; cases this)
theorem cellsU64e : Tryd.prog.cellsOf 43 = 1 := by kernel_rfl
theorem equal_v (f g : Nat → Nat) (w : World) : (Op.equalIn 10000 45 (.agg (vcells f)) (.agg (vcells g))).run Tryd.prog w = .ok (eqB f g) w := by
  obtain ⟨i, hi⟩ := info22
  rw [run_equalIn_array w 9999 _ _ Tryd.underlying45 hi, cellsU64e, eqItems_v f g w _ (fun i hi => by simpa using hi)]
  rfl
end Go.Proofs.YtioldhhnkeakcaaDoor
