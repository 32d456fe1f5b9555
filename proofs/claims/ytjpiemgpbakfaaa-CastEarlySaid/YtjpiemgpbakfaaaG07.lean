/- Texts VecB, joined. -/
import Derived.Test.YtjpiemgpbakfaaaG03
import Derived.StillTailTactics
import Derived.Lib.SmallJoins
/- Walks over package vec: Join, Meet. -/
namespace Go.Proofs.Ytjpiemgpbakfaaa
open Go.RowKit Go.Joins

def upd (f : Nat → Nat) (k v : Nat) : Nat → Nat := fun i => if i = k then v else f i
theorem vcells_upd (f : Nat → Nat) {k : Nat} (hk : k < 8) (v : Nat) : (vcells f).setIfInBounds k (.int .u64 (v : Int)) = vcells (upd f k v) := by
  match k, hk with
  | 0, _ => rfl
  | 1, _ => rfl
  | 2, _ => rfl
  | 3, _ => rfl
  | 4, _ => rfl
  | 5, _ => rfl
  | 6, _ => rfl
  | 7, _ => rfl
/-- The greater numbers; up to k. -/
def jn (a b : Nat → Nat) : Nat → Nat := fun i => max (a i) (b i)
def jnTo (a b : Nat → Nat) (k : Nat) : Nat → Nat := fun i => if i < k then max (a i) (b i) else a i
/-- What a call that makes a vector out of two has in memory. -/
def TwoRel (f : Nat → Nat → Nat) (b : Nat → Nat) (w : World) (i : Value) (wr : World) : Prop :=
  ∃ k : Nat, k ≤ 8 ∧ i = .int .i64 k ∧ wr.heap[w.heap.size]? = some (.cells (vcells (f k)) 30 (0, 0)) ∧ wr.heap[w.heap.size + 1]? = some (.cells (vcells b) 30 (0, 0)) ∧
    wr.heap[w.heap.size + 1 + 1]? = some (.cells (vcells (fun _ => 0)) 30 (0, 0)) ∧ Gr w wr

theorem boxes3 (a b : Nat → Nat) (w : World) : ∃ W, W = ((w.alloc (.cells (vcells a) 30)).alloc (.cells (vcells b) 30)).alloc (.cells #[.int .u64 0, .int .u64 0, .int .u64 0, .int .u64 0, .int .u64 0, .int .u64 0, .int .u64 0, .int .u64 0] 30) ∧ Gr w W ∧
    W.heap[w.heap.size]? = some (.cells (vcells a) 30 (0, 0)) ∧ W.heap[w.heap.size + 1]? = some (.cells (vcells b) 30 (0, 0)) ∧ W.heap[w.heap.size + 1 + 1]? = some (.cells (vcells (fun _ => 0)) 30 (0, 0)) := by
  refine ⟨_, rfl, (Gr.refl w |>.alloc _ |>.alloc _ |>.alloc _), ?_, ?_, ?_⟩
  all_goals (simp only [World.alloc, Array.getElem?_push, Array.size_push]; simp)
  omega
theorem Gr.setCell {a b : World} (h : Gr a b) {p : Addr} (hp : a.heap.size ≤ p.block) (v : Value) : Gr a (b.setCell p v) := Below.setCell h hp v
theorem jnTo_succ (a b : Nat → Nat) (k : Nat) : upd (jnTo a b k) k (max (a k) (b k)) = jnTo a b (k + 1) := by
  funext i
  simp only [upd, jnTo]
  by_cases h : i = k
  · subst h; simp
  · rw [if_neg h]
    by_cases h2 : i < k
    · rw [if_pos h2, if_pos (by omega)]
    · rw [if_neg h2, if_neg (by omega)]
theorem jnTo_at (a b : Nat → Nat) (k : Nat) : jnTo a b k k = a k := by simp [jnTo]
theorem jnTo_stay (a b : Nat → Nat) (k : Nat) (h : b k ≤ a k) : jnTo a b k = jnTo a b (k + 1) := by
  rw [← jnTo_succ, Nat.max_eq_left h]
  funext i
  simp only [upd]
  split
  · next h => subst h; exact jnTo_at a b i
  · rfl
/-- The lesser numbers; up to k. -/
def mt (a b : Nat → Nat) : Nat → Nat := fun i => min (a i) (b i)
def mtTo (a b : Nat → Nat) (k : Nat) : Nat → Nat := fun i => if i < k then min (a i) (b i) else a i
theorem mtTo_succ (a b : Nat → Nat) (k : Nat) : upd (mtTo a b k) k (min (a k) (b k)) = mtTo a b (k + 1) := by
  funext i
  simp only [upd, mtTo]
  by_cases h : i = k
  · subst h; simp
  · rw [if_neg h]
    by_cases h2 : i < k
    · rw [if_pos h2, if_pos (by omega)]
    · rw [if_neg h2, if_neg (by omega)]
theorem mtTo_at (a b : Nat → Nat) (k : Nat) : mtTo a b k k = a k := by simp [mtTo]
theorem mtTo_stay (a b : Nat → Nat) (k : Nat) (h : a k ≤ b k) : mtTo a b k = mtTo a b (k + 1) := by
  rw [← mtTo_succ, Nat.min_eq_left h]
  funext i
  simp only [upd]
  split
  · next h => subst h; exact mtTo_at a b i
  · rfl
theorem min_if (x y : Nat) : (if y < x then (y : Int) else (x : Int)) = ((min x y : Nat) : Int) := by
  split <;> omega
theorem vcells_jn (a b : Nat → Nat) : vcells (jnTo a b 8) = vcells (jn a b) := rfl

theorem max_if (x y : Nat) : (if x < y then (y : Int) else (x : Int)) = ((max x y : Nat) : Int) := by
  split <;> omega
theorem TwoRel.next {f : Nat → Nat → Nat} {b : Nat → Nat} {w wr : World} {k v : Nat} (hlt : k < 8) (hA : wr.heap[w.heap.size]? = some (.cells (vcells (f k)) 30 (0, 0))) (hB : wr.heap[w.heap.size + 1]? = some (.cells (vcells b) 30 (0, 0)))
    (hC : wr.heap[w.heap.size + 1 + 1]? = some (.cells (vcells (fun _ => 0)) 30 (0, 0))) (hg : Gr w wr) (hu : upd (f k) k v = f (k + 1)) (x : Int) (hx : x = (v : Int)) (i : Value) (hi : i = .int .i64 ((k + 1 : Nat) : Int)) :
    TwoRel f b w i (wr.setCell ⟨w.heap.size, k, none⟩ (.int .u64 x)).drew := by
  subst hx
  refine ⟨k + 1, by omega, hi, ?_, ?_, ?_, (Gr.setCell hg (by simp) _).drew⟩
  · show (wr.setCell ⟨w.heap.size, k, none⟩ (.int .u64 v)).heap[w.heap.size]? = _
    rw [block_setCell hA, vcells_upd _ hlt, hu]
  · show (wr.setCell ⟨w.heap.size, k, none⟩ (.int .u64 v)).heap[w.heap.size + 1]? = _
    rw [Go.Deep.blk_setCell_other _ _ _ _ (by simp)]; exact hB
  · show (wr.setCell ⟨w.heap.size, k, none⟩ (.int .u64 v)).heap[w.heap.size + 1 + 1]? = _
    rw [Go.Deep.blk_setCell_other _ _ _ _ (by simp; omega)]; exact hC

theorem TwoRel.stay {f : Nat → Nat → Nat} {b : Nat → Nat} {w wr : World} {k n : Nat} (hlt : k < 8) (hA : wr.heap[w.heap.size]? = some (.cells (vcells (f k)) 30 (0, 0))) (hB : wr.heap[w.heap.size + 1]? = some (.cells (vcells b) 30 (0, 0)))
    (hC : wr.heap[w.heap.size + 1 + 1]? = some (.cells (vcells (fun _ => 0)) 30 (0, 0))) (hg : Gr w wr) (hu : f k = f (k + 1)) (i : Value) (hi : i = .int .i64 ((k + 1 : Nat) : Int)) :
    TwoRel f b w i (wr.drewN n) :=
  ⟨k + 1, by omega, hi, by rw [← hu]; exact hA, hB, hC, hg.drewN n⟩
theorem TwoRel.next' {f : Nat → Nat → Nat} {b : Nat → Nat} {w wr : World} {k v n : Nat} (hlt : k < 8) (hA : wr.heap[w.heap.size]? = some (.cells (vcells (f k)) 30 (0, 0))) (hB : wr.heap[w.heap.size + 1]? = some (.cells (vcells b) 30 (0, 0)))
    (hC : wr.heap[w.heap.size + 1 + 1]? = some (.cells (vcells (fun _ => 0)) 30 (0, 0))) (hg : Gr w wr) (hu : upd (f k) k v = f (k + 1)) (i : Value) (hi : i = .int .i64 ((k + 1 : Nat) : Int)) :
    TwoRel f b w i ((wr.setCell ⟨w.heap.size, k, none⟩ (.int .u64 (v : Int))).drewN n) := by
  obtain ⟨k', h1, h2, h3, h4, h5, h6⟩ := TwoRel.next hlt hA hB hC hg hu _ rfl i hi
  exact ⟨k', h1, h2, h3, h4, h5, (Gr.setCell hg (by simp) _).drewN n⟩

set_option maxRecDepth 100000 in
theorem rmeet_any (a b : Nat → Nat) (w : World) :
    Calls Try.prog 16 #[.agg (vcells a), .agg (vcells b)] w fun e w' => e = .returned (.agg (vcells (mt a b))) ∧ Gr w w' := by
  obtain ⟨W, hW, hg, hA, hB, hC⟩ := boxes3 a b w
  go_enter Try.func16, Try.ntmps16
  go_wp2_with fail
  rw [← hW]
  clear hW
  go_loopw [5] (fun i wr => TwoRel (mtTo a b) b w i wr) (fun i _ => 8 - (intOf i).toNat)
  case atStart => exact ⟨0, by decide, rfl, hA, hB, hC, hg⟩
  case round =>
    clear hA hB hC hg
    obtain ⟨k, hk, rfl, hA, hB, hC, hg⟩ := hrel
    by_cases hlt : k < 8
    · have hca : wr.cell? ⟨w.heap.size, k, none⟩ = some (.int .u64 (a k : Int)) := by
        rw [cell_of_block hA, vcells_at _ hlt, mtTo_at]
      have hfa : wr.frozen? ⟨w.heap.size, k, none⟩ = false := unfrozen_of_block hA k
      have hcb : wr.cell? ⟨w.heap.size + 1, k, none⟩ = some (.int .u64 (b k : Int)) := by
        rw [cell_of_block hB, vcells_at _ hlt]
      have hk0 : (0 : Int) ≤ (k : Int) := Int.natCast_nonneg _
      have hk8 : (k : Int) < 8 := by omega
      have HA := Lib.hid hA
      have HB := Lib.hid hB
      have HC := Lib.hid hC
      have HG := Lib.hid hg
      clear hA hB hC hg
      by_cases hab : b k < a k
      · have hd : decide (b k < a k) = true := decide_eq_true hab
        have hu := mtTo_succ a b k
        rw [Nat.min_eq_right (by omega)] at hu
        have HU := Lib.hid hu
        clear hu hab
        go_wp2_with fail
        go_quiet (fail)
        go_wp2_with fail
        go_roundw
        case rel => first | exact TwoRel.next' (f := mtTo a b) hlt HA.out HB.out HC.out HG.out HU.out _ (by go_num) | exact TwoRel.next (f := mtTo a b) hlt HA.out HB.out HC.out HG.out HU.out _ rfl _ (by go_num)
        case measure => simp [intOf]; omega
      · have hd : decide (b k < a k) = false := decide_eq_false hab
        have HU := Lib.hid (mtTo_stay a b k (by omega))
        clear hab
        go_wp2_with fail
        go_quiet (fail)
        go_wp2_with fail
        go_roundw
        case rel => exact TwoRel.stay (f := mtTo a b) hlt HA.out HB.out HC.out HG.out HU.out _ (by go_num)
        case measure => simp [intOf]; omega
    · obtain rfl : k = 8 := by omega
      have c0 : wr.cell? ⟨w.heap.size, 0, none⟩ = some (.int .u64 (mt a b 0 : Int)) := by rw [cell_of_block hA]; rfl
      have c1 : wr.cell? ⟨w.heap.size, 1, none⟩ = some (.int .u64 (mt a b 1 : Int)) := by rw [cell_of_block hA]; rfl
      have c2 : wr.cell? ⟨w.heap.size, 2, none⟩ = some (.int .u64 (mt a b 2 : Int)) := by rw [cell_of_block hA]; rfl
      have c3 : wr.cell? ⟨w.heap.size, 3, none⟩ = some (.int .u64 (mt a b 3 : Int)) := by rw [cell_of_block hA]; rfl
      have c4 : wr.cell? ⟨w.heap.size, 4, none⟩ = some (.int .u64 (mt a b 4 : Int)) := by rw [cell_of_block hA]; rfl
      have c5 : wr.cell? ⟨w.heap.size, 5, none⟩ = some (.int .u64 (mt a b 5 : Int)) := by rw [cell_of_block hA]; rfl
      have c6 : wr.cell? ⟨w.heap.size, 6, none⟩ = some (.int .u64 (mt a b 6 : Int)) := by rw [cell_of_block hA]; rfl
      have c7 : wr.cell? ⟨w.heap.size, 7, none⟩ = some (.int .u64 (mt a b 7 : Int)) := by rw [cell_of_block hA]; rfl
      have hle : w.heap.size ≤ w.heap.size + 1 + 1 := by omega
      have hz : w.heap.size + 1 + 1 < wr.heap.size := (Array.getElem?_eq_some_iff.1 hC).1
      have hf : ∀ i, wr.frozen? ⟨w.heap.size + 1 + 1, i, none⟩ = false := fun i => unfrozen_of_block hC i
      have hs : ∀ i : Fin 8, wr.cell? ⟨w.heap.size + 1 + 1, i.val, none⟩ = some (.int .u64 0) := fun i => by rw [cell_of_block hC, vcells_at _ i.isLt]; rfl
      have s0 : wr.cell? ⟨w.heap.size + 1 + 1, 0, none⟩ = some (.int .u64 0) := hs 0
      have s1 : wr.cell? ⟨w.heap.size + 1 + 1, 1, none⟩ = some (.int .u64 0) := hs 1
      have s2 : wr.cell? ⟨w.heap.size + 1 + 1, 2, none⟩ = some (.int .u64 0) := hs 2
      have s3 : wr.cell? ⟨w.heap.size + 1 + 1, 3, none⟩ = some (.int .u64 0) := hs 3
      have s4 : wr.cell? ⟨w.heap.size + 1 + 1, 4, none⟩ = some (.int .u64 0) := hs 4
      have s5 : wr.cell? ⟨w.heap.size + 1 + 1, 5, none⟩ = some (.int .u64 0) := hs 5
      have s6 : wr.cell? ⟨w.heap.size + 1 + 1, 6, none⟩ = some (.int .u64 0) := hs 6
      have s7 : wr.cell? ⟨w.heap.size + 1 + 1, 7, none⟩ = some (.int .u64 0) := hs 7
      have HG := Lib.hid hg
      clear hA hB hC hg hs
      go_wp2_with fail
      exact bodyPost_ret (v := .agg (vcells (mt a b))) (by simp [results, Try.results16, go_sem, *]) rfl ⟨rfl, by as_aux_lemma => (iterate 8 (with_reducible refine Gr.setCell ?_ hle _)); exact HG.out⟩
end Go.Proofs.Ytjpiemgpbakfaaa
