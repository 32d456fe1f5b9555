/- Walks over package vec: Join, Meet. -/
import Derived.Test.YteagmdnpajalgaaVecA
import Derived.StillTailTactics
import Derived.Lib.SmallJoins
namespace Go.Proofs.Yteagmdnpajalgaa
open Go.RowKit Go.Joins

def upd (f : Nat → Nat) (k v : Nat) : Nat → Nat := fun i => if i = k then v else f i
theorem vcells_upd (f : Nat → Nat) {k : Nat} (hk : k < 8) (v : Nat) : (vcells f).setIfInBounds k (.int .u64 (v : Int)) = vcells (upd f k v) := by
  match k, hk with
  | 0, _ => rfl
  | 1, _ => rfl
  | 2, _ => rfl
  | 3, _ => rfl
  | 4, _ => rfl
  | 5, _ => rfl
  | 6, _ => rfl
  | 7, _ => rfl
/-- The greater numbers; up to k. -/
def jn (a b : Nat → Nat) : Nat → Nat := fun i => max (a i) (b i)
def jnTo (a b : Nat → Nat) (k : Nat) : Nat → Nat := fun i => if i < k then max (a i) (b i) else a i
/-- What a call that makes a vector out of two has in memory. -/
def TwoRel (f : Nat → Nat → Nat) (b : Nat → Nat) (w : World) (i : Value) (wr : World) : Prop :=
  ∃ k : Nat, k ≤ 8 ∧ i = .int .i64 k ∧ wr.heap[w.heap.size]? = some (.cells (vcells (f k)) 33 (0, 0)) ∧ wr.heap[w.heap.size + 1]? = some (.cells (vcells b) 33 (0, 0)) ∧
    wr.heap[w.heap.size + 1 + 1]? = some (.cells (vcells (fun _ => 0)) 33 (0, 0)) ∧ Gr w wr

theorem boxes3 (a b : Nat → Nat) (w : World) : ∃ W, W = ((w.alloc (.cells (vcells a) 33)).alloc (.cells (vcells b) 33)).alloc (.cells #[.int .u64 0, .int .u64 0, .int .u64 0, .int .u64 0, .int .u64 0, .int .u64 0, .int .u64 0, .int .u64 0] 33) ∧ Gr w W ∧
    W.heap[w.heap.size]? = some (.cells (vcells a) 33 (0, 0)) ∧ W.heap[w.heap.size + 1]? = some (.cells (vcells b) 33 (0, 0)) ∧ W.heap[w.heap.size + 1 + 1]? = some (.cells (vcells (fun _ => 0)) 33 (0, 0)) := by
  refine ⟨_, rfl, (Gr.refl w |>.alloc _ |>.alloc _ |>.alloc _), ?_, ?_, ?_⟩
  all_goals (simp only [World.alloc, Array.getElem?_push, Array.size_push]; simp)
  omega
theorem Gr.setCell {a b : World} (h : Gr a b) {p : Addr} (hp : a.heap.size ≤ p.block) (v : Value) : Gr a (b.setCell p v) := Below.setCell h hp v
theorem jnTo_succ (a b : Nat → Nat) (k : Nat) : upd (jnTo a b k) k (max (a k) (b k)) = jnTo a b (k + 1) := by
  funext i
  simp only [upd, jnTo]
  by_cases h : i = k
  · subst h; simp
  · rw [if_neg h]
    by_cases h2 : i < k
    · rw [if_pos h2, if_pos (by omega)]
    · rw [if_neg h2, if_neg (by omega)]
theorem jnTo_at (a b : Nat → Nat) (k : Nat) : jnTo a b k k = a k := by simp [jnTo]
theorem jnTo_stay (a b : Nat → Nat) (k : Nat) (h : b k ≤ a k) : jnTo a b k = jnTo a b (k + 1) := by
  rw [← jnTo_succ, Nat.max_eq_left h]
  funext i
  simp only [upd]
  split
  · next h => subst h; exact jnTo_at a b i
  · rfl
/-- The lesser numbers; up to k. -/
def mt (a b : Nat → Nat) : Nat → Nat := fun i => min (a i) (b i)
def mtTo (a b : Nat → Nat) (k : Nat) : Nat → Nat := fun i => if i < k then min (a i) (b i) else a i
theorem mtTo_succ (a b : Nat → Nat) (k : Nat) : upd (mtTo a b k) k (min (a k) (b k)) = mtTo a b (k + 1) := by
  funext i
  simp only [upd, mtTo]
  by_cases h : i = k
  · subst h; simp
  · rw [if_neg h]
    by_cases h2 : i < k
    · rw [if_pos h2, if_pos (by omega)]
    · rw [if_neg h2, if_neg (by omega)]
theorem mtTo_at (a b : Nat → Nat) (k : Nat) : mtTo a b k k = a k := by simp [mtTo]
theorem mtTo_stay (a b : Nat → Nat) (k : Nat) (h : a k ≤ b k) : mtTo a b k = mtTo a b (k + 1) := by
  rw [← mtTo_succ, Nat.min_eq_left h]
  funext i
  simp only [upd]
  split
  · next h => subst h; exact mtTo_at a b i
  · rfl
theorem min_if (x y : Nat) : (if y < x then (y : Int) else (x : Int)) = ((min x y : Nat) : Int) := by
  split <;> omega
theorem vcells_jn (a b : Nat → Nat) : vcells (jnTo a b 8) = vcells (jn a b) := rfl

theorem max_if (x y : Nat) : (if x < y then (y : Int) else (x : Int)) = ((max x y : Nat) : Int) := by
  split <;> omega
theorem TwoRel.next {f : Nat → Nat → Nat} {b : Nat → Nat} {w wr : World} {k v : Nat} (hlt : k < 8) (hA : wr.heap[w.heap.size]? = some (.cells (vcells (f k)) 33 (0, 0))) (hB : wr.heap[w.heap.size + 1]? = some (.cells (vcells b) 33 (0, 0)))
    (hC : wr.heap[w.heap.size + 1 + 1]? = some (.cells (vcells (fun _ => 0)) 33 (0, 0))) (hg : Gr w wr) (hu : upd (f k) k v = f (k + 1)) (x : Int) (hx : x = (v : Int)) (i : Value) (hi : i = .int .i64 ((k + 1 : Nat) : Int)) :
    TwoRel f b w i (wr.setCell ⟨w.heap.size, k, none⟩ (.int .u64 x)).drew := by
  subst hx
  refine ⟨k + 1, by omega, hi, ?_, ?_, ?_, (Gr.setCell hg (by simp) _).drew⟩
  · show (wr.setCell ⟨w.heap.size, k, none⟩ (.int .u64 v)).heap[w.heap.size]? = _
    rw [block_setCell hA, vcells_upd _ hlt, hu]
  · show (wr.setCell ⟨w.heap.size, k, none⟩ (.int .u64 v)).heap[w.heap.size + 1]? = _
    rw [Go.Deep.blk_setCell_other _ _ _ _ (by simp)]; exact hB
  · show (wr.setCell ⟨w.heap.size, k, none⟩ (.int .u64 v)).heap[w.heap.size + 1 + 1]? = _
    rw [Go.Deep.blk_setCell_other _ _ _ _ (by simp; omega)]; exact hC

theorem TwoRel.stay {f : Nat → Nat → Nat} {b : Nat → Nat} {w wr : World} {k n : Nat} (hlt : k < 8) (hA : wr.heap[w.heap.size]? = some (.cells (vcells (f k)) 33 (0, 0))) (hB : wr.heap[w.heap.size + 1]? = some (.cells (vcells b) 33 (0, 0)))
    (hC : wr.heap[w.heap.size + 1 + 1]? = some (.cells (vcells (fun _ => 0)) 33 (0, 0))) (hg : Gr w wr) (hu : f k = f (k + 1)) (i : Value) (hi : i = .int .i64 ((k + 1 : Nat) : Int)) :
    TwoRel f b w i (wr.drewN n) :=
  ⟨k + 1, by omega, hi, by rw [← hu]; exact hA, hB, hC, hg.drewN n⟩
theorem TwoRel.next' {f : Nat → Nat → Nat} {b : Nat → Nat} {w wr : World} {k v n : Nat} (hlt : k < 8) (hA : wr.heap[w.heap.size]? = some (.cells (vcells (f k)) 33 (0, 0))) (hB : wr.heap[w.heap.size + 1]? = some (.cells (vcells b) 33 (0, 0)))
    (hC : wr.heap[w.heap.size + 1 + 1]? = some (.cells (vcells (fun _ => 0)) 33 (0, 0))) (hg : Gr w wr) (hu : upd (f k) k v = f (k + 1)) (i : Value) (hi : i = .int .i64 ((k + 1 : Nat) : Int)) :
    TwoRel f b w i ((wr.setCell ⟨w.heap.size, k, none⟩ (.int .u64 (v : Int))).drewN n) := by
  obtain ⟨k', h1, h2, h3, h4, h5, h6⟩ := TwoRel.next hlt hA hB hC hg hu _ rfl i hi
  exact ⟨k', h1, h2, h3, h4, h5, (Gr.setCell hg (by simp) _).drewN n⟩

end Go.Proofs.Yteagmdnpajalgaa
