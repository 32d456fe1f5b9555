/- Walks: the numbers, the head and the operations of a transaction's fields: readNums, readOp, readHead. -/
import Derived.Test.YteagmdnpajalgaaTxJ
import Derived.Test.YteagmdnpajalgaaCodeC
import Derived.Test.YteagmdnpajalgaaVecB
import Derived.Test.YteagmdnpajalgaaUnpack
namespace Go.Proofs.Yteagmdnpajalgaa
open Go.RowKit Go.Joins

/-- The numbers of the bytes. -/
def numsR (s : ByteArray) (k : Nat) : Nat := rd (s.extract (8 * k) (8 * (k + 1))).data.toList
def numsTo (s : ByteArray) (k : Nat) : Nat → Nat := fun i => if i < k then numsR s i else 0
theorem numsTo_succ (s : ByteArray) (k : Nat) : upd (numsTo s k) k (numsR s k) = numsTo s (k + 1) := by
  funext i
  simp only [upd, numsTo]
  by_cases h : i = k
  · subst h; simp
  · rw [if_neg h]
    by_cases h2 : i < k
    · rw [if_pos h2, if_pos (by omega)]
    · rw [if_neg h2, if_neg (by omega)]
theorem numsTo_all (s : ByteArray) : vcells (numsTo s 8) = vcells (numsR s) := rfl
theorem vboxes (w : World) : ∃ W, W = (w.alloc (.cells #[.int .u64 0, .int .u64 0, .int .u64 0, .int .u64 0, .int .u64 0, .int .u64 0, .int .u64 0, .int .u64 0] 33)).alloc (.cells #[.int .u64 0, .int .u64 0, .int .u64 0, .int .u64 0, .int .u64 0, .int .u64 0, .int .u64 0, .int .u64 0] 33) ∧ Gr w W ∧
    W.heap[w.heap.size]? = some (.cells (vcells (fun _ => 0)) 33 (0, 0)) ∧ W.heap[w.heap.size + 1]? = some (.cells (vcells (fun _ => 0)) 33 (0, 0)) := by
  refine ⟨_, rfl, (Gr.refl w |>.alloc _ |>.alloc _), ?_, ?_⟩
  all_goals (simp only [World.alloc, Array.getElem?_push, Array.size_push]; simp)
def RNumsRel (s : ByteArray) (w : World) (i : Value) (wr : World) : Prop :=
  ∃ k : Nat, k ≤ 8 ∧ i = .int .i64 k ∧ wr.heap[w.heap.size]? = some (.cells (vcells (fun _ => 0)) 33 (0, 0)) ∧ wr.heap[w.heap.size + 1]? = some (.cells (vcells (numsTo s k)) 33 (0, 0)) ∧ Gr w wr
set_option maxRecDepth 100000 in
set_option maxHeartbeats 2000000 in
theorem readNums_any (s : ByteArray) (hs : s.size ≤ 9223372036854775807) (w : World) :
    Calls Try.prog 46 #[.string s] w fun e w' => e = .returned (.tuple #[.agg (vcells (if s.size = 64 then numsR s else fun _ => 0)), .bool (decide (s.size = 64))]) ∧ Gr w w' := by
  obtain ⟨W, hW, hg, hA, hB⟩ := vboxes w
  by_cases h64 : s.size = 64
  · rw [if_pos h64, decide_eq_true h64]
    have t1 : ((s.size : Int) != 64) = false := int_bne_f (by omega)
    have H64 := Lib.hid h64
    clear h64
    go_enter Try.func46, Try.ntmps46
    go_wp2_with fail
    rw [← hW]
    clear hW
    go_loopw [10] (fun i wr => RNumsRel s w i wr) (fun i _ => 8 - (intOf i).toNat)
    case atStart => exact ⟨0, by decide, rfl, hA, hB, hg⟩
    case round =>
      clear hA hB hg
      obtain ⟨k, hk, rfl, hA, hB, hg⟩ := hrel
      by_cases hlt : k < 8
      · have h64 : 64 ≤ s.size := by rw [H64.out]; exact Nat.le_refl _
        have hk0 : (0 : Int) ≤ (k : Int) := Int.natCast_nonneg _
        have hk8 : (k : Int) < 8 := by omega
        have HN := Lib.hid (fun w => readNum_yes (s.extract (8 * k) (8 * (k + 1))) (by rw [ByteArray.size_extract]; omega) w)
        obtain ⟨v, hv⟩ : ∃ v, v = numsR s k := ⟨_, rfl⟩
        rw [show rd (s.extract (8 * k) (8 * (k + 1))).data.toList = v from hv.symm] at HN
        have HV := Lib.hid hv
        clear hv
        have HA := Lib.hid hA
        have HB := Lib.hid hB
        have HG := Lib.hid hg
        have hcB : wr.cell? ⟨w.heap.size + 1, k, none⟩ = some (.int .u64 (numsTo s k k : Int)) := by rw [cell_of_block hB, vcells_at _ hlt]
        have hfB : wr.frozen? ⟨w.heap.size + 1, k, none⟩ = false := unfrozen_of_block hB k
        clear hA hB hg
        go_wp2_with fail
        refine (HN.out _).mono ?_
        rintro e w1 ⟨rfl, rfl⟩
        go_wp2_with fail
        go_roundw
        case rel =>
          refine ⟨k + 1, by omega, by go_num, ?_, ?_, Gr.setCell HG.out (by simp) _⟩
          · rw [Go.Deep.blk_setCell_other _ _ _ _ (by simp)]; exact HA.out
          · rw [block_setCell HB.out, ← numsTo_succ, ← vcells_upd _ hlt, HV.out]
        case measure => simp [intOf]; omega
      · obtain rfl : k = 8 := by omega
        rw [numsTo_all] at hB
        have q0 : wr.cell? ⟨w.heap.size, 0, none⟩ = some (.int .u64 0) := by rw [cell_of_block hA]; rfl
        have q1 : wr.cell? ⟨w.heap.size, 1, none⟩ = some (.int .u64 0) := by rw [cell_of_block hA]; rfl
        have q2 : wr.cell? ⟨w.heap.size, 2, none⟩ = some (.int .u64 0) := by rw [cell_of_block hA]; rfl
        have q3 : wr.cell? ⟨w.heap.size, 3, none⟩ = some (.int .u64 0) := by rw [cell_of_block hA]; rfl
        have q4 : wr.cell? ⟨w.heap.size, 4, none⟩ = some (.int .u64 0) := by rw [cell_of_block hA]; rfl
        have q5 : wr.cell? ⟨w.heap.size, 5, none⟩ = some (.int .u64 0) := by rw [cell_of_block hA]; rfl
        have q6 : wr.cell? ⟨w.heap.size, 6, none⟩ = some (.int .u64 0) := by rw [cell_of_block hA]; rfl
        have q7 : wr.cell? ⟨w.heap.size, 7, none⟩ = some (.int .u64 0) := by rw [cell_of_block hA]; rfl
        have f0 := unfrozen_of_block hA 0
        have f1 := unfrozen_of_block hA 1
        have f2 := unfrozen_of_block hA 2
        have f3 := unfrozen_of_block hA 3
        have f4 := unfrozen_of_block hA 4
        have f5 := unfrozen_of_block hA 5
        have f6 := unfrozen_of_block hA 6
        have f7 := unfrozen_of_block hA 7
        have p0 : wr.cell? ⟨w.heap.size + 1, 0, none⟩ = some (.int .u64 (numsR s 0 : Int)) := by rw [cell_of_block hB]; rfl
        have p1 : wr.cell? ⟨w.heap.size + 1, 1, none⟩ = some (.int .u64 (numsR s 1 : Int)) := by rw [cell_of_block hB]; rfl
        have p2 : wr.cell? ⟨w.heap.size + 1, 2, none⟩ = some (.int .u64 (numsR s 2 : Int)) := by rw [cell_of_block hB]; rfl
        have p3 : wr.cell? ⟨w.heap.size + 1, 3, none⟩ = some (.int .u64 (numsR s 3 : Int)) := by rw [cell_of_block hB]; rfl
        have p4 : wr.cell? ⟨w.heap.size + 1, 4, none⟩ = some (.int .u64 (numsR s 4 : Int)) := by rw [cell_of_block hB]; rfl
        have p5 : wr.cell? ⟨w.heap.size + 1, 5, none⟩ = some (.int .u64 (numsR s 5 : Int)) := by rw [cell_of_block hB]; rfl
        have p6 : wr.cell? ⟨w.heap.size + 1, 6, none⟩ = some (.int .u64 (numsR s 6 : Int)) := by rw [cell_of_block hB]; rfl
        have p7 : wr.cell? ⟨w.heap.size + 1, 7, none⟩ = some (.int .u64 (numsR s 7 : Int)) := by rw [cell_of_block hB]; rfl
        have HG := Lib.hid hg
        clear hA hB hg
        go_wp2_with fail
        refine bodyPost_ret (v := .tuple #[.agg (vcells (numsR s)), .bool true]) (by simp [results, Try.results46, go_sem, *]) rfl ⟨rfl, ?_⟩
        exact ((((((((HG.out.setCell (by simp) _).setCell (by simp) _).setCell (by simp) _).setCell (by simp) _).setCell (by simp) _).setCell (by simp) _).setCell (by simp) _).setCell (by simp) _)
  · rw [if_neg h64, decide_eq_false h64]
    have t1 : ((s.size : Int) != 64) = true := int_bne_t (by omega)
    have q0 : W.cell? ⟨w.heap.size, 0, none⟩ = some (.int .u64 0) := by rw [cell_of_block hA]; rfl
    have q1 : W.cell? ⟨w.heap.size, 1, none⟩ = some (.int .u64 0) := by rw [cell_of_block hA]; rfl
    have q2 : W.cell? ⟨w.heap.size, 2, none⟩ = some (.int .u64 0) := by rw [cell_of_block hA]; rfl
    have q3 : W.cell? ⟨w.heap.size, 3, none⟩ = some (.int .u64 0) := by rw [cell_of_block hA]; rfl
    have q4 : W.cell? ⟨w.heap.size, 4, none⟩ = some (.int .u64 0) := by rw [cell_of_block hA]; rfl
    have q5 : W.cell? ⟨w.heap.size, 5, none⟩ = some (.int .u64 0) := by rw [cell_of_block hA]; rfl
    have q6 : W.cell? ⟨w.heap.size, 6, none⟩ = some (.int .u64 0) := by rw [cell_of_block hA]; rfl
    have q7 : W.cell? ⟨w.heap.size, 7, none⟩ = some (.int .u64 0) := by rw [cell_of_block hA]; rfl
    have f0 := unfrozen_of_block hA 0
    have f1 := unfrozen_of_block hA 1
    have f2 := unfrozen_of_block hA 2
    have f3 := unfrozen_of_block hA 3
    have f4 := unfrozen_of_block hA 4
    have f5 := unfrozen_of_block hA 5
    have f6 := unfrozen_of_block hA 6
    have f7 := unfrozen_of_block hA 7
    have HG := Lib.hid hg
    clear hA hB hg h64
    go_enter Try.func46, Try.ntmps46
    go_upto_region 2 with (fail)
    rw [← hW]
    clear hW
    go_wp2_with fail
    refine bodyPost_ret (v := .tuple #[.agg (vcells (fun _ => 0)), .bool false]) (by simp [results, Try.results46, go_sem, *]) rfl ⟨rfl, ?_⟩
    exact ((((((((HG.out.setCell (by simp) _).setCell (by simp) _).setCell (by simp) _).setCell (by simp) _).setCell (by simp) _).setCell (by simp) _).setCell (by simp) _).setCell (by simp) _)
end Go.Proofs.Yteagmdnpajalgaa
