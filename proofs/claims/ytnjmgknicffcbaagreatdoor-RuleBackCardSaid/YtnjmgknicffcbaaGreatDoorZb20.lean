/- Walks over package vec: Join, Meet. Mathematics of logs: when they may be, closed cuts, joins. -/
import Derived.Test.YtnjmgknicffcbaaGreatDoorZb06
import Derived.StillTailTactics
import Derived.Lib.SmallJoins
import Derived.Test.YtnjmgknicffcbaaGreatDoorZb19
namespace Go.Proofs.YtnjmgknicffcbaaGreatDoor
open Go.RowKit Go.Joins

def upd (f : Nat → Nat) (k v : Nat) : Nat → Nat := fun i => if i = k then v else f i
theorem vcells_upd (f : Nat → Nat) {k : Nat} (hk : k < 8) (v : Nat) : (vcells f).setIfInBounds k (.int .u64 (v : Int)) = vcells (upd f k v) := by
  match k, hk with
  | 0, _ => rfl
  | 1, _ => rfl
  | 2, _ => rfl
  | 3, _ => rfl
  | 4, _ => rfl
  | 5, _ => rfl
  | 6, _ => rfl
  | 7, _ => rfl
/-- The greater numbers; up to k. -/
def jn (a b : Nat → Nat) : Nat → Nat := fun i => max (a i) (b i)
def jnTo (a b : Nat → Nat) (k : Nat) : Nat → Nat := fun i => if i < k then max (a i) (b i) else a i
/-- What a call that makes a vector out of two has in memory. -/
def TwoRel (f : Nat → Nat → Nat) (b : Nat → Nat) (w : World) (i : Value) (wr : World) : Prop :=
  ∃ k : Nat, k ≤ 8 ∧ i = .int .i64 k ∧ wr.heap[w.heap.size]? = some (.cells (vcells (f k)) 28 (0, 0)) ∧ wr.heap[w.heap.size + 1]? = some (.cells (vcells b) 28 (0, 0)) ∧
    wr.heap[w.heap.size + 1 + 1]? = some (.cells (vcells (fun _ => 0)) 28 (0, 0)) ∧ Gr w wr

theorem boxes3 (a b : Nat → Nat) (w : World) : ∃ W, W = ((w.alloc (.cells (vcells a) 28)).alloc (.cells (vcells b) 28)).alloc (.cells #[.int .u64 0, .int .u64 0, .int .u64 0, .int .u64 0, .int .u64 0, .int .u64 0, .int .u64 0, .int .u64 0] 28) ∧ Gr w W ∧
    W.heap[w.heap.size]? = some (.cells (vcells a) 28 (0, 0)) ∧ W.heap[w.heap.size + 1]? = some (.cells (vcells b) 28 (0, 0)) ∧ W.heap[w.heap.size + 1 + 1]? = some (.cells (vcells (fun _ => 0)) 28 (0, 0)) := by
  refine ⟨_, rfl, (Gr.refl w |>.alloc _ |>.alloc _ |>.alloc _), ?_, ?_, ?_⟩
  all_goals (simp only [World.alloc, Array.getElem?_push, Array.size_push]; simp)
  omega
theorem Gr.setCell {a b : World} (h : Gr a b) {p : Addr} (hp : a.heap.size ≤ p.block) (v : Value) : Gr a (b.setCell p v) := Below.setCell h hp v
theorem jnTo_succ (a b : Nat → Nat) (k : Nat) : upd (jnTo a b k) k (max (a k) (b k)) = jnTo a b (k + 1) := by
  funext i
  simp only [upd, jnTo]
  by_cases h : i = k
  · subst h; simp
  · rw [if_neg h]
    by_cases h2 : i < k
    · rw [if_pos h2, if_pos (by omega)]
    · rw [if_neg h2, if_neg (by omega)]
theorem jnTo_at (a b : Nat → Nat) (k : Nat) : jnTo a b k k = a k := by simp [jnTo]
theorem max_if (x y : Nat) : (if x < y then (y : Int) else (x : Int)) = ((max x y : Nat) : Int) := by
  split <;> omega
theorem TwoRel.next {f : Nat → Nat → Nat} {b : Nat → Nat} {w wr : World} {k v : Nat} (hlt : k < 8) (hA : wr.heap[w.heap.size]? = some (.cells (vcells (f k)) 28 (0, 0))) (hB : wr.heap[w.heap.size + 1]? = some (.cells (vcells b) 28 (0, 0)))
    (hC : wr.heap[w.heap.size + 1 + 1]? = some (.cells (vcells (fun _ => 0)) 28 (0, 0))) (hg : Gr w wr) (hu : upd (f k) k v = f (k + 1)) (x : Int) (hx : x = (v : Int)) (i : Value) (hi : i = .int .i64 ((k + 1 : Nat) : Int)) :
    TwoRel f b w i (wr.setCell ⟨w.heap.size, k, none⟩ (.int .u64 x)).drew := by
  subst hx
  refine ⟨k + 1, by omega, hi, ?_, ?_, ?_, (Gr.setCell hg (by simp) _).drew⟩
  · show (wr.setCell ⟨w.heap.size, k, none⟩ (.int .u64 v)).heap[w.heap.size]? = _
    rw [block_setCell hA, vcells_upd _ hlt, hu]
  · show (wr.setCell ⟨w.heap.size, k, none⟩ (.int .u64 v)).heap[w.heap.size + 1]? = _
    rw [Go.Deep.blk_setCell_other _ _ _ _ (by simp)]; exact hB
  · show (wr.setCell ⟨w.heap.size, k, none⟩ (.int .u64 v)).heap[w.heap.size + 1 + 1]? = _
    rw [Go.Deep.blk_setCell_other _ _ _ _ (by simp; omega)]; exact hC

set_option maxRecDepth 100000 in
theorem join_any (a b : Nat → Nat) (w : World) :
    Calls Tryz.prog 203 #[.agg (vcells a), .agg (vcells b)] w fun e w' => e = .returned (.agg (vcells (jn a b))) ∧ Gr w w' := by
  obtain ⟨W, hW, hg, hA, hB, hC⟩ := boxes3 a b w
  go_enter Tryz.func203, Tryz.ntmps203
  go_wp2_with fail
  rw [← hW]
  clear hW
  go_loopw [6] (fun i wr => TwoRel (jnTo a b) b w i wr) (fun i _ => 8 - (intOf i).toNat)
  case atStart => exact ⟨0, by decide, rfl, hA, hB, hC, hg⟩
  case round =>
    clear hA hB hC hg
    obtain ⟨k, hk, rfl, hA, hB, hC, hg⟩ := hrel
    by_cases hlt : k < 8
    · have hca : wr.cell? ⟨w.heap.size, k, none⟩ = some (.int .u64 (a k : Int)) := by
        rw [cell_of_block hA, vcells_at _ hlt, jnTo_at]
      have hfa : wr.frozen? ⟨w.heap.size, k, none⟩ = false := unfrozen_of_block hA k
      have hcb : wr.cell? ⟨w.heap.size + 1, k, none⟩ = some (.int .u64 (b k : Int)) := by
        rw [cell_of_block hB, vcells_at _ hlt]
      have hk0 : (0 : Int) ≤ (k : Int) := Int.natCast_nonneg _
      have hk8 : (k : Int) < 8 := by omega
      go_wp2_with fail
      go_still_tail 9, (by kernel_rfl)
      go_wp2_with fail
      exact ⟨TwoRel.next (f := jnTo a b) hlt hA hB hC hg (jnTo_succ a b k) _ (max_if _ _) _ (by go_num), by simp [intOf]; omega⟩
    · obtain rfl : k = 8 := by omega
      have c0 : wr.cell? ⟨w.heap.size, 0, none⟩ = some (.int .u64 (jn a b 0 : Int)) := by rw [cell_of_block hA]; rfl
      have c1 : wr.cell? ⟨w.heap.size, 1, none⟩ = some (.int .u64 (jn a b 1 : Int)) := by rw [cell_of_block hA]; rfl
      have c2 : wr.cell? ⟨w.heap.size, 2, none⟩ = some (.int .u64 (jn a b 2 : Int)) := by rw [cell_of_block hA]; rfl
      have c3 : wr.cell? ⟨w.heap.size, 3, none⟩ = some (.int .u64 (jn a b 3 : Int)) := by rw [cell_of_block hA]; rfl
      have c4 : wr.cell? ⟨w.heap.size, 4, none⟩ = some (.int .u64 (jn a b 4 : Int)) := by rw [cell_of_block hA]; rfl
      have c5 : wr.cell? ⟨w.heap.size, 5, none⟩ = some (.int .u64 (jn a b 5 : Int)) := by rw [cell_of_block hA]; rfl
      have c6 : wr.cell? ⟨w.heap.size, 6, none⟩ = some (.int .u64 (jn a b 6 : Int)) := by rw [cell_of_block hA]; rfl
      have c7 : wr.cell? ⟨w.heap.size, 7, none⟩ = some (.int .u64 (jn a b 7 : Int)) := by rw [cell_of_block hA]; rfl
      have hle : w.heap.size ≤ w.heap.size + 1 + 1 := by omega
      have hz : w.heap.size + 1 + 1 < wr.heap.size := (Array.getElem?_eq_some_iff.1 hC).1
      have hf : ∀ i, wr.frozen? ⟨w.heap.size + 1 + 1, i, none⟩ = false := fun i => unfrozen_of_block hC i
      have hs : ∀ i : Fin 8, wr.cell? ⟨w.heap.size + 1 + 1, i.val, none⟩ = some (.int .u64 0) := fun i => by rw [cell_of_block hC, vcells_at _ i.isLt]; rfl
      have s0 : wr.cell? ⟨w.heap.size + 1 + 1, 0, none⟩ = some (.int .u64 0) := hs 0
      have s1 : wr.cell? ⟨w.heap.size + 1 + 1, 1, none⟩ = some (.int .u64 0) := hs 1
      have s2 : wr.cell? ⟨w.heap.size + 1 + 1, 2, none⟩ = some (.int .u64 0) := hs 2
      have s3 : wr.cell? ⟨w.heap.size + 1 + 1, 3, none⟩ = some (.int .u64 0) := hs 3
      have s4 : wr.cell? ⟨w.heap.size + 1 + 1, 4, none⟩ = some (.int .u64 0) := hs 4
      have s5 : wr.cell? ⟨w.heap.size + 1 + 1, 5, none⟩ = some (.int .u64 0) := hs 5
      have s6 : wr.cell? ⟨w.heap.size + 1 + 1, 6, none⟩ = some (.int .u64 0) := hs 6
      have s7 : wr.cell? ⟨w.heap.size + 1 + 1, 7, none⟩ = some (.int .u64 0) := hs 7
      have HG := Lib.hid hg
      clear hA hB hC hg hs
      go_wp2_with fail
      exact bodyPost_ret (v := .agg (vcells (jn a b))) (by simp [results, Tryz.results203, go_sem, *]) rfl ⟨rfl, by as_aux_lemma => (iterate 8 (with_reducible refine Gr.setCell ?_ hle _)); exact HG.out⟩
end Go.Proofs.YtnjmgknicffcbaaGreatDoor
namespace Go.Proofs.YtnjmgknicffcbaaGreatDoor

abbrev LG := Nat → List TX
def sizeV (l : LG) : Nat → Nat := fun i => (l i).length
def lastS (l : LG) (v : Nat → Nat) (i : Nat) : Nat := if v i = 0 then 0 else match (l i)[v i - 1]? with | some t => t.stamp | none => 0
def stampTo (l : LG) (v : Nat → Nat) : Nat → Nat
  | 0 => 0
  | k + 1 => max (stampTo l v k) (lastS l v k)
/-- The stamp of a cut. -/
def stampV (l : LG) (v : Nat → Nat) : Nat := stampTo l v 8
def behindE (l : LG) (t : TX) : Nat := if leqB t.deps (sizeV l) = true then (if t.stamp ≤ stampV l t.deps then 80 else 0) else 90
def txE (l : LG) (i k : Nat) (t : TX) : Nat := if okTx t ∧ t.origin = (i : Int) ∧ t.seq = k + 1 then behindE l t else 80
def txAt (l : LG) (i k : Nat) : Nat := match (l i)[k]? with | some t => txE l i k t | none => 0
def logTo (l : LG) (i : Nat) : Nat → Nat
  | 0 => 0
  | k + 1 => if logTo l i k = 0 then txAt l i k else logTo l i k
def logsTo (l : LG) : Nat → Nat
  | 0 => 0
  | i + 1 => if logsTo l i = 0 then logTo l i (l i).length else logsTo l i
def longB (l : LG) : Bool := (List.range 8).any fun i => decide (1024 < (l i).length)
/-- What Check answers. -/
def checkE (l : LG) : Nat := if longB l = true then 2 else logsTo l 8
theorem longB_yes {l : LG} {i : Nat} (hi : i < 8) (h : 1024 < (l i).length) : longB l = true := by
  unfold longB
  rw [List.any_eq_true]
  exact ⟨i, List.mem_range.2 hi, decide_eq_true h⟩
theorem longB_no {l : LG} (h : ∀ i, i < 8 → (l i).length ≤ 1024) : longB l = false := by
  unfold longB
  rw [List.any_eq_false]
  intro i hi
  have := h i (List.mem_range.1 hi)
  simp only [decide_eq_true_eq]
  omega
theorem longB_le {l : LG} (h : longB l = false) {i : Nat} (hi : i < 8) : (l i).length ≤ 1024 := by
  rcases Nat.lt_or_ge 1024 (l i).length with h1 | h1
  · rw [longB_yes hi h1] at h; cases h
  · exact h1
theorem logTo_stay {l : LG} {i k e : Nat} (h : logTo l i k = e) (he : e ≠ 0) (d : Nat) : logTo l i (k + d) = e := by
  induction d with
  | zero => exact h
  | succ d ih =>
    have e1 : logTo l i (k + (d + 1)) = if logTo l i (k + d) = 0 then txAt l i (k + d) else logTo l i (k + d) := rfl
    rw [e1, ih, if_neg he]
theorem logsTo_stay {l : LG} {i e : Nat} (h : logsTo l i = e) (he : e ≠ 0) (d : Nat) : logsTo l (i + d) = e := by
  induction d with
  | zero => exact h
  | succ d ih =>
    have e1 : logsTo l (i + (d + 1)) = if logsTo l (i + d) = 0 then logTo l (i + d) (l (i + d)).length else logsTo l (i + d) := rfl
    rw [e1, ih, if_neg he]
theorem logTo_next {l : LG} {i k : Nat} (h : logTo l i k = 0) : logTo l i (k + 1) = txAt l i k := by
  show (if _ = 0 then _ else _) = _
  rw [if_pos h]
theorem logsTo_next {l : LG} {i : Nat} (h : logsTo l i = 0) : logsTo l (i + 1) = logTo l i (l i).length := by
  show (if _ = 0 then _ else _) = _
  rw [if_pos h]
theorem txAt_at {l : LG} {i k : Nat} {t : TX} (h : (l i)[k]? = some t) : txAt l i k = txE l i k t := by unfold txAt; rw [h]
/-- The first fault is told. -/
theorem checkE_at {l : LG} {i k e : Nat} {t : TX} (hl : longB l = false) (hi : i < 8) (ht : (l i)[k]? = some t) (h0 : logsTo l i = 0) (h1 : logTo l i k = 0) (h2 : txE l i k t = e) (he : e ≠ 0) : checkE l = e := by
  have hk : k < (l i).length := (List.getElem?_eq_some_iff.1 ht).1
  have e1 : logTo l i (k + 1) = e := by rw [logTo_next h1, txAt_at ht, h2]
  have e2 := logTo_stay e1 he ((l i).length - (k + 1))
  rw [show k + 1 + ((l i).length - (k + 1)) = (l i).length by omega] at e2
  have e3 : logsTo l (i + 1) = e := by rw [logsTo_next h0, e2]
  have e4 := logsTo_stay e3 he (8 - (i + 1))
  rw [show i + 1 + (8 - (i + 1)) = 8 by omega] at e4
  unfold checkE
  rw [hl]
  exact e4
theorem logTo_zero {l : LG} {i n : Nat} (h : logTo l i n = 0) : ∀ k t, k < n → (l i)[k]? = some t → txE l i k t = 0 := by
  induction n with
  | zero => intro k t hk; omega
  | succ n ih =>
    have h1 : logTo l i n = 0 := by
      rcases Nat.eq_zero_or_pos (logTo l i n) with e | e
      · exact e
      · have : logTo l i (n + 1) = logTo l i n := by show (if _ = 0 then _ else _) = _; rw [if_neg (by omega)]
        omega
    intro k t hk ht
    by_cases e : k = n
    · subst e
      rw [← txAt_at ht, ← logTo_next h1, h]
    · exact ih h1 k t (by omega) ht
theorem logTo_of {l : LG} {i n : Nat} (h : ∀ k t, k < n → (l i)[k]? = some t → txE l i k t = 0) : logTo l i n = 0 := by
  induction n with
  | zero => rfl
  | succ n ih =>
    rw [logTo_next (ih fun k t hk => h k t (by omega))]
    unfold txAt
    split
    · next t ht => exact h n t (by omega) ht
    · rfl
theorem logsTo_zero {l : LG} {n : Nat} (h : logsTo l n = 0) : ∀ i, i < n → logTo l i (l i).length = 0 := by
  induction n with
  | zero => intro i hi; omega
  | succ n ih =>
    have h1 : logsTo l n = 0 := by
      rcases Nat.eq_zero_or_pos (logsTo l n) with e | e
      · exact e
      · have : logsTo l (n + 1) = logsTo l n := by show (if _ = 0 then _ else _) = _; rw [if_neg (by omega)]
        omega
    intro i hi
    by_cases e : i = n
    · subst e; rw [← logsTo_next h1, h]
    · exact ih h1 i (by omega)
theorem logsTo_of {l : LG} {n : Nat} (h : ∀ i, i < n → logTo l i (l i).length = 0) : logsTo l n = 0 := by
  induction n with
  | zero => rfl
  | succ n ih => rw [logsTo_next (ih fun i hi => h i (by omega))]; exact h n (by omega)
/-- Logs may be. -/
structure OkL (l : LG) : Prop where
  len : ∀ i, i < 8 → (l i).length ≤ 1024
  tx : ∀ i k t, i < 8 → (l i)[k]? = some t → okTx t ∧ t.origin = (i : Int) ∧ t.seq = k + 1 ∧ leqB t.deps (sizeV l) = true ∧ stampV l t.deps < t.stamp
theorem txE_zero {l : LG} {i k : Nat} {t : TX} : txE l i k t = 0 ↔ okTx t ∧ t.origin = (i : Int) ∧ t.seq = k + 1 ∧ leqB t.deps (sizeV l) = true ∧ stampV l t.deps < t.stamp := by
  unfold txE behindE
  by_cases h : okTx t ∧ t.origin = (i : Int) ∧ t.seq = k + 1
  · rw [if_pos h]
    by_cases h2 : leqB t.deps (sizeV l) = true
    · rw [if_pos h2]
      by_cases h3 : t.stamp ≤ stampV l t.deps
      · rw [if_pos h3]
        exact ⟨fun e => by omega, fun ⟨_, _, _, _, e⟩ => by omega⟩
      · rw [if_neg h3]
        exact ⟨fun _ => ⟨h.1, h.2.1, h.2.2, h2, by omega⟩, fun _ => rfl⟩
    · rw [if_neg h2]
      exact ⟨fun e => by omega, fun ⟨_, _, _, e, _⟩ => absurd e h2⟩
  · rw [if_neg h]
    exact ⟨fun e => by omega, fun ⟨a, b, c, _⟩ => absurd ⟨a, b, c⟩ h⟩
theorem okL_iff {l : LG} : checkE l = 0 ↔ OkL l := by
  refine ⟨fun h => ?_, fun h => ?_⟩
  · unfold checkE at h
    rcases hl : longB l with _ | _
    · rw [hl] at h
      refine ⟨fun i hi => longB_le hl hi, fun i k t hi ht => txE_zero.1 ?_⟩
      exact logTo_zero (logsTo_zero h i hi) k t (List.getElem?_eq_some_iff.1 ht).1 ht
    · rw [hl, if_pos rfl] at h
      omega
  · unfold checkE
    rw [longB_no h.len]
    exact logsTo_of fun i hi => logTo_of fun k t _ ht => txE_zero.2 (h.tx i k t hi ht)
theorem le_stampTo {l : LG} {v : Nat → Nat} {n i : Nat} (hi : i < n) : lastS l v i ≤ stampTo l v n := by
  induction n with
  | zero => omega
  | succ n ih =>
    show _ ≤ max _ _
    by_cases e : i = n
    · subst e; omega
    · have := ih (by omega)
      omega
theorem le_stampV {l : LG} {v : Nat → Nat} {i : Nat} (hi : i < 8) : lastS l v i ≤ stampV l v := le_stampTo hi
theorem lastS_at {l : LG} {v : Nat → Nat} {i d : Nat} {t : TX} (hv : v i = d + 1) (ht : (l i)[d]? = some t) : lastS l v i = t.stamp := by
  unfold lastS
  rw [if_neg (by omega), show v i - 1 = d by omega, ht]
theorem lq {a b : Nat → Nat} (h : leqB a b = true) {i : Nat} (hi : i < 8) : a i ≤ b i := leqB_iff.1 h i hi
theorem lq_of {a b : Nat → Nat} (h : ∀ i, i < 8 → a i ≤ b i) : leqB a b = true := leqB_iff.2 h
theorem OkL.own {l : LG} (h : OkL l) {i k : Nat} {t : TX} (hi : i < 8) (ht : (l i)[k]? = some t) : t.deps i = k := by
  obtain ⟨h1, h2, h3, _⟩ := h.tx i k t hi ht
  have := h1.1.2.2.2.2
  rw [h2, h3] at this
  simpa using this
/-- What a transaction depends on has a smaller stamp. -/
theorem OkL.before {l : LG} (h : OkL l) {i j k d : Nat} {t u : TX} (hi : i < 8) (hj : j < 8) (ht : (l i)[k]? = some t) (hu : (l j)[d]? = some u) (hd : t.deps j = d + 1) : u.stamp < t.stamp := by
  have h2 := (h.tx i k t hi ht).2.2.2.2
  have h3 := le_stampV (l := l) (v := t.deps) hj
  rw [lastS_at hd hu] at h3
  omega
/-- The cut is within the logs, and closed. -/
def closedP (l : LG) (v : Nat → Nat) : Prop := leqB v (sizeV l) = true ∧ ∀ i k t, i < 8 → k < v i → (l i)[k]? = some t → leqB t.deps v = true
def closedB (l : LG) (v : Nat → Nat) : Bool := leqB v (sizeV l) && (List.range 8).all fun i => ((l i).take (v i)).all fun t => leqB t.deps v
theorem closedB_iff {l : LG} {v : Nat → Nat} : closedB l v = true ↔ closedP l v := by
  unfold closedB closedP
  rw [Bool.and_eq_true, List.all_eq_true]
  refine and_congr_right fun _ => ⟨fun h i k t hi hk ht => ?_, fun h i hi => ?_⟩
  · have := h i (List.mem_range.2 hi)
    rw [List.all_eq_true] at this
    exact this t (List.mem_of_getElem? (i := k) (by rw [List.getElem?_take_of_lt hk]; exact ht))
  · rw [List.all_eq_true]
    intro t ht
    obtain ⟨k, hk⟩ := List.mem_iff_getElem?.1 ht
    rcases Nat.lt_or_ge k (v i) with hlt | hge
    · rw [List.getElem?_take_of_lt hlt] at hk
      exact h i k t (List.mem_range.1 hi) hlt hk
    · rw [List.getElem?_eq_none (by rw [List.length_take]; omega)] at hk
      cases hk
theorem closed_zero (l : LG) : closedP l (fun _ => 0) := ⟨lq_of fun _ _ => Nat.zero_le _, fun _ _ _ _ hk => absurd hk (Nat.not_lt_zero _)⟩
/-- Of each member the longer log. -/
def jnL (a b : LG) : LG := fun i => if (a i).length < (b i).length then b i else a i
end Go.Proofs.YtnjmgknicffcbaaGreatDoor
