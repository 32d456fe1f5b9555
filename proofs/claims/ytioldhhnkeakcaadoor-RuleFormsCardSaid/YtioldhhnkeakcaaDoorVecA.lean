/- Walks over package vec: vectors as functions on the eight members; Leq. -/
import Derived.Test.YtioldhhnkeakcaaDoorBase
import Derived.BigQuiet
import Derived.Deep.QuietTactic
import Derived.Deep.RegionWith
import Derived.WalkSpells
import Derived.WalkLawsBesides
import Derived.Handy
import Derived.Lib.Hide
namespace Go.Proofs.YtioldhhnkeakcaaDoor
open Go.RowKit

/-- The cells of a vector. -/
abbrev vcells (a : Nat → Nat) : Array Value := #[.int .u64 (a 0 : Int), .int .u64 (a 1 : Int), .int .u64 (a 2 : Int), .int .u64 (a 3 : Int), .int .u64 (a 4 : Int), .int .u64 (a 5 : Int), .int .u64 (a 6 : Int), .int .u64 (a 7 : Int)]
theorem vcells_at (a : Nat → Nat) {k : Nat} (hk : k < 8) : (vcells a)[k]? = some (.int .u64 (a k : Int)) := by
  match k, hk with
  | 0, _ => rfl
  | 1, _ => rfl
  | 2, _ => rfl
  | 3, _ => rfl
  | 4, _ => rfl
  | 5, _ => rfl
  | 6, _ => rfl
  | 7, _ => rfl

/-- No number of a up to k is above b's. -/
def leqTo (a b : Nat → Nat) (k : Nat) : Prop := ∀ i, i < k → a i ≤ b i
def leqB (a b : Nat → Nat) : Bool := (List.range 8).all fun i => decide (a i ≤ b i)
theorem leqB_iff {a b : Nat → Nat} : leqB a b = true ↔ leqTo a b 8 := by simp [leqB, leqTo]
theorem leqB_yes {a b : Nat → Nat} (h : leqTo a b 8) : leqB a b = true := leqB_iff.2 h
theorem leqB_no {a b : Nat → Nat} {k : Nat} (hk : k < 8) (h : b k < a k) : leqB a b = false := by
  rw [Bool.eq_false_iff]
  intro q
  have := leqB_iff.1 q k hk
  omega
def LeqRel (a b : Nat → Nat) (w : World) (i : Value) (wr : World) : Prop := ∃ k n : Nat, k ≤ 8 ∧ i = .int .i64 k ∧ leqTo a b k ∧ wr = w.drewN n
/-- The two boxes of a call's two vectors. -/
theorem boxes2 (a b : Nat → Nat) (w : World) : ∃ W, W = (w.alloc (.cells (vcells a) 45)).alloc (.cells (vcells b) 45) ∧ Gr w W ∧
    (∀ k, k < 8 → W.cell? ⟨w.heap.size, k, none⟩ = some (.int .u64 (a k : Int))) ∧ (∀ k, k < 8 → W.cell? ⟨w.heap.size + 1, k, none⟩ = some (.int .u64 (b k : Int))) := by
  refine ⟨_, rfl, (Gr.refl w |>.alloc _ |>.alloc _), fun k hk => ?_, fun k hk => ?_⟩
  · rw [World.cell?_alloc_past _ _ _ (by simp), World.cell?_alloc_at _ _ _ _ rfl]
    exact vcells_at a hk
  · rw [World.cell?_alloc_at _ _ _ _ (by simp)]
    exact vcells_at b hk

end Go.Proofs.YtioldhhnkeakcaaDoor
