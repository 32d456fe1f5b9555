/- Transactions as they are read; walks: when two are the same: the program's and the document's Same. -/
import Derived.Test.YtioldhhnkeakcaaDoorTxA
import Derived.Test.YtioldhhnkeakcaaDoorVecE
namespace Go.Proofs.YtioldhhnkeakcaaDoor
open Go.RowKit

structure TX where
  origin : Int
  seq : Nat
  stamp : Nat
  deps : Nat → Nat
  ops : List TO
/-- The cells of a transaction whose list is the slice v. -/
abbrev tcs (t : TX) (v : Value) : Array Value := #[.int .i64 t.origin, .int .u64 (t.seq : Int), .int .u64 (t.stamp : Int), .int .u64 (t.deps 0 : Int), .int .u64 (t.deps 1 : Int), .int .u64 (t.deps 2 : Int), .int .u64 (t.deps 3 : Int), .int .u64 (t.deps 4 : Int), .int .u64 (t.deps 5 : Int), .int .u64 (t.deps 6 : Int), .int .u64 (t.deps 7 : Int), v]
def sameT (a b : TX) : Bool := (a.origin == b.origin) && (a.seq == b.seq && (a.stamp == b.stamp && (eqB a.deps b.deps && tsameB a.ops b.ops)))
theorem sameT_self (a : TX) : sameT a a = true := by
  unfold sameT
  rw [tsameB_yes rfl, eqB_self]
  simp
theorem int_bne_t {a b : Int} (h : ¬ a = b) : (a != b) = true := bne_iff_ne.2 h
theorem int_bne_f {a b : Int} (h : a = b) : (a != b) = false := by subst h; simp
theorem int_beq_t {a b : Int} (h : a = b) : (a == b) = true := by subst h; simp
theorem int_beq_f {a b : Int} (h : ¬ a = b) : (a == b) = false := by simpa using h
theorem nat_bne_t {a b : Nat} (h : ¬ a = b) : ((a : Int) != (b : Int)) = true := int_bne_t (by omega)
theorem nat_bne_f {a b : Nat} (h : a = b) : ((a : Int) != (b : Int)) = false := int_bne_f (by omega)
theorem nat_beq_t {a b : Nat} (h : a = b) : ((a : Int) == (b : Int)) = true := int_beq_t (by omega)
theorem nat_beq_f {a b : Nat} (h : ¬ a = b) : ((a : Int) == (b : Int)) = false := int_beq_f (by omega)

/-- The two boxes of a call's two transactions. -/
theorem boxesT (a b : TX) (va vb : Value) (w : World) : ∃ W, W = (w.alloc (.cells (tcs a va) 47)).alloc (.cells (tcs b vb) 47) ∧ Gr w W ∧
    W.cell? ⟨w.heap.size, 11, none⟩ = some va ∧ W.cell? ⟨w.heap.size + 1, 11, none⟩ = some vb := by
  refine ⟨_, rfl, (Gr.refl w |>.alloc _ |>.alloc _), ?_, ?_⟩
  · rw [World.cell?_alloc_past _ _ _ (by simp), World.cell?_alloc_at _ _ _ _ rfl]
    rfl
  · rw [World.cell?_alloc_at _ _ _ _ (by simp)]
    rfl
end Go.Proofs.YtioldhhnkeakcaaDoor
