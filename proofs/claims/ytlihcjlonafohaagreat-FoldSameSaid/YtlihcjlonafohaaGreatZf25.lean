/- Walk: named, the fields that a kind names. Written by wip/tools/genfoi.py. -/
import Derived.Test.YtlihcjlonafohaaGreatZf24
import Derived.RegionTactic
import Derived.ChangeAlike
namespace Go.Proofs.YtlihcjlonafohaaGreat
open Go.RowKit Go.Joins
set_option linter.unusedSimpArgs false
set_option linter.unusedVariables false

set_option maxRecDepth 100000 in
set_option maxHeartbeats 4000000 in
theorem named1_any (n : Int) (A1 A2 : Option Addr) (n1 c1 n2 c2 : Nat) (has : Bool) (st : Nat) (top : TG) (df : Bool) (w : World) :
    Calls Tryz.prog 46 #[.agg (fsc 1 n (.slice A1 n1 c1) (.slice A2 n2 c2) has st top df)] w fun e w' => e = .returned (.agg (fsc 1 n (.slice none 0 0) (.slice none 0 0) false 0 tg0 false)) ∧ Gr w w' := by
  obtain ⟨W1, hW1, hg1, hs1⟩ : ∃ W, W = w.alloc (.cells (fsc 1 n (.slice A1 n1 c1) (.slice A2 n2 c2) has st top df) 39) ∧ Gr w W ∧ W.heap[w.heap.size]? = some (.cells (fsc 1 n (.slice A1 n1 c1) (.slice A2 n2 c2) has st top df) 39 (0, 0)) := ⟨_, rfl, (Gr.refl _).alloc _, heap_alloc _ _ _⟩
  obtain ⟨W2, hW2, hg2, hz2⟩ : ∃ W, W = W1.alloc (.cells (fsc 0 0 (.slice none 0 0) (.slice none 0 0) false 0 tg0 false) 39) ∧ Gr W1 W ∧ W.heap[W1.heap.size]? = some (.cells (fsc 0 0 (.slice none 0 0) (.slice none 0 0) false 0 tg0 false) 39 (0, 0)) := ⟨_, rfl, (Gr.refl _).alloc _, heap_alloc _ _ _⟩
  obtain ⟨W3, hW3, hg3, hq3⟩ : ∃ W, W = W2.alloc (.cells (fsc 1 0 (.slice none 0 0) (.slice none 0 0) false 0 tg0 false) 39) ∧ Gr W2 W ∧ W.heap[W2.heap.size]? = some (.cells (fsc 1 0 (.slice none 0 0) (.slice none 0 0) false 0 tg0 false) 39 (0, 0)) := ⟨_, rfl, (Gr.refl _).alloc _, heap_alloc _ _ _⟩
  have e1 : W1.heap.size = w.heap.size + 1 := by rw [hW1]; simp
  have e2 : W2.heap.size = w.heap.size + 1 + 1 := by rw [hW2]; simp [e1]
  obtain ⟨S, hS⟩ : ∃ S, S = w.heap.size := ⟨_, rfl⟩
  obtain ⟨R, hR⟩ : ∃ S, S = w.heap.size + 1 := ⟨_, rfl⟩
  obtain ⟨Q, hQ⟩ : ∃ S, S = w.heap.size + 1 + 1 := ⟨_, rfl⟩
  rw [← hS] at hs1
  rw [e1, ← hR] at hz2
  rw [e2, ← hQ] at hq3
  have hs2 := gr_obj hg2 hs1
  have hs3 := gr_obj hg3 hs2
  have hz3 := gr_obj hg3 hz2
  have HG3 := Lib.hid ((hg1.trans hg2).trans hg3)
  have HRQ : Hid (w.heap.size ≤ R ∧ w.heap.size ≤ Q ∧ R ≠ Q) := Lib.hid ⟨by omega, by omega, by omega⟩
  have k0 : W2.cell? ⟨S, 0, none⟩ = some (.int .i64 1) := by rw [cell_of_block hs2]; rfl
  have k3 : W3.cell? ⟨S, 0, none⟩ = some (.int .i64 1) := by rw [cell_of_block hs3]; rfl
  have v1 : W3.cell? ⟨S, 1, none⟩ = some (.int .i64 n) := by rw [cell_of_block hs3]; rfl
  have q1 : W3.cell? ⟨Q, 1, none⟩ = some (.int .i64 0) := by rw [cell_of_block hq3]; rfl
  have f1 := unfrozen_of_block hq3 1
  have HQ3 := Lib.hid hq3
  have HZ3 := Lib.hid hz3
  rw [hW1] at hW2
  have HQ2 : Hid (Q = W2.heap.size) := Lib.hid (by rw [hQ, e2])
  clear hg1 hg2 hg3 hs1 hz2 hs2 e1 e2 hQ hW1 hs3 hz3 hq3
  go_enter Tryz.func46, Tryz.ntmps46
  go_upto_region 1 with (fail)
  change Code.wp Tryz.prog _ _ _ ((w.alloc (.cells (fsc 1 n (.slice A1 n1 c1) (.slice A2 n2 c2) has st top df) 39)).alloc (.cells (fsc 0 0 (.slice none 0 0) (.slice none 0 0) false 0 tg0 false) 39))
  rw [← hW2, ← hR, ← hS]
  clear hW2 hR hS
  go_upto_region 2 with (fail)
  change Code.wp Tryz.prog _ _ _ (W2.alloc (.cells (fsc 1 0 (.slice none 0 0) (.slice none 0 0) false 0 tg0 false) 39))
  rw [← hW3, ← HQ2.out]
  clear hW3 k0
  go_upto_region 16 with (fail)
  obtain ⟨W4, hW4⟩ : ∃ X, X = (W3.setCell ⟨Q, 1, none⟩ (.int .i64 n)) := ⟨_, rfl⟩
  have hs4 : W4.heap[Q]? = some (.cells (fsc 1 n (.slice none 0 0) (.slice none 0 0) false 0 tg0 false) 39 (0, 0)) := by rw [hW4]; exact (set_obj (i := 1) HQ3.out _)
  have hz4 : W4.heap[R]? = some (.cells (fsc 0 0 (.slice none 0 0) (.slice none 0 0) false 0 tg0 false) 39 (0, 0)) := by rw [hW4]; exact (set_obj_other HZ3.out HRQ.out.2.2 _)
  have HG4 : Hid (Gr w W4) := Lib.hid (by rw [hW4]; exact (HG3.out.setCell HRQ.out.2.1 _))
  rw [← hW4]
  clear hW4 k3 v1 q1 f1
  go_wp2_with (first | (refine wpList_load_row rfl 39 (.tmp 3) rfl Q rfl 39 (fsc 1 n (.slice none 0 0) (.slice none 0 0) false 0 tg0 false) (0, 0) _ hs4 Tryz.underlying39 rfl sinfo ?_) | (refine wpList_store_row rfl 39 (.tmp 2) (.tmp 49) rfl R (fsc 1 n (.slice none 0 0) (.slice none 0 0) false 0 tg0 false) rfl rfl 39 _ hz4 sinfo rfl (fsc_ones _ _ _ _ _ _ _ _ _ _ _ _) ?_))
  have hzf := setRow_heap W4 R _ (fsc 1 n (.slice none 0 0) (.slice none 0 0) false 0 tg0 false) 39 _ hz4
  have HZF := Lib.hid hzf
  have hgr := below_setRow HG4.out HRQ.out.1 (fsc 1 n (.slice none 0 0) (.slice none 0 0) false 0 tg0 false)
  clear hzf
  go_wp2_with fail
  exact bodyPost_ret (results_cell_row Tryz.results46 _ _ R 39 (fsc 1 n (.slice none 0 0) (.slice none 0 0) false 0 tg0 false) (0, 0) _ rfl HZF.out Tryz.underlying39 rfl sinfo) rfl ⟨rfl, hgr⟩
set_option maxRecDepth 100000 in
set_option maxHeartbeats 4000000 in
theorem named2_any (n : Int) (A1 A2 : Option Addr) (n1 c1 n2 c2 : Nat) (has : Bool) (st : Nat) (top : TG) (df : Bool) (w : World) :
    Calls Tryz.prog 46 #[.agg (fsc 2 n (.slice A1 n1 c1) (.slice A2 n2 c2) has st top df)] w fun e w' => e = .returned (.agg (fsc 2 n (.slice none 0 0) (.slice none 0 0) false 0 tg0 false)) ∧ Gr w w' := by
  obtain ⟨W1, hW1, hg1, hs1⟩ : ∃ W, W = w.alloc (.cells (fsc 2 n (.slice A1 n1 c1) (.slice A2 n2 c2) has st top df) 39) ∧ Gr w W ∧ W.heap[w.heap.size]? = some (.cells (fsc 2 n (.slice A1 n1 c1) (.slice A2 n2 c2) has st top df) 39 (0, 0)) := ⟨_, rfl, (Gr.refl _).alloc _, heap_alloc _ _ _⟩
  obtain ⟨W2, hW2, hg2, hz2⟩ : ∃ W, W = W1.alloc (.cells (fsc 0 0 (.slice none 0 0) (.slice none 0 0) false 0 tg0 false) 39) ∧ Gr W1 W ∧ W.heap[W1.heap.size]? = some (.cells (fsc 0 0 (.slice none 0 0) (.slice none 0 0) false 0 tg0 false) 39 (0, 0)) := ⟨_, rfl, (Gr.refl _).alloc _, heap_alloc _ _ _⟩
  obtain ⟨W3, hW3, hg3, hq3⟩ : ∃ W, W = W2.alloc (.cells (fsc 2 0 (.slice none 0 0) (.slice none 0 0) false 0 tg0 false) 39) ∧ Gr W2 W ∧ W.heap[W2.heap.size]? = some (.cells (fsc 2 0 (.slice none 0 0) (.slice none 0 0) false 0 tg0 false) 39 (0, 0)) := ⟨_, rfl, (Gr.refl _).alloc _, heap_alloc _ _ _⟩
  have e1 : W1.heap.size = w.heap.size + 1 := by rw [hW1]; simp
  have e2 : W2.heap.size = w.heap.size + 1 + 1 := by rw [hW2]; simp [e1]
  obtain ⟨S, hS⟩ : ∃ S, S = w.heap.size := ⟨_, rfl⟩
  obtain ⟨R, hR⟩ : ∃ S, S = w.heap.size + 1 := ⟨_, rfl⟩
  obtain ⟨Q, hQ⟩ : ∃ S, S = w.heap.size + 1 + 1 := ⟨_, rfl⟩
  rw [← hS] at hs1
  rw [e1, ← hR] at hz2
  rw [e2, ← hQ] at hq3
  have hs2 := gr_obj hg2 hs1
  have hs3 := gr_obj hg3 hs2
  have hz3 := gr_obj hg3 hz2
  have HG3 := Lib.hid ((hg1.trans hg2).trans hg3)
  have HRQ : Hid (w.heap.size ≤ R ∧ w.heap.size ≤ Q ∧ R ≠ Q) := Lib.hid ⟨by omega, by omega, by omega⟩
  have k0 : W2.cell? ⟨S, 0, none⟩ = some (.int .i64 2) := by rw [cell_of_block hs2]; rfl
  have k3 : W3.cell? ⟨S, 0, none⟩ = some (.int .i64 2) := by rw [cell_of_block hs3]; rfl
  have v1 : W3.cell? ⟨S, 1, none⟩ = some (.int .i64 n) := by rw [cell_of_block hs3]; rfl
  have q1 : W3.cell? ⟨Q, 1, none⟩ = some (.int .i64 0) := by rw [cell_of_block hq3]; rfl
  have f1 := unfrozen_of_block hq3 1
  have HQ3 := Lib.hid hq3
  have HZ3 := Lib.hid hz3
  rw [hW1] at hW2
  have HQ2 : Hid (Q = W2.heap.size) := Lib.hid (by rw [hQ, e2])
  clear hg1 hg2 hg3 hs1 hz2 hs2 e1 e2 hQ hW1 hs3 hz3 hq3
  go_enter Tryz.func46, Tryz.ntmps46
  go_upto_region 1 with (fail)
  change Code.wp Tryz.prog _ _ _ ((w.alloc (.cells (fsc 2 n (.slice A1 n1 c1) (.slice A2 n2 c2) has st top df) 39)).alloc (.cells (fsc 0 0 (.slice none 0 0) (.slice none 0 0) false 0 tg0 false) 39))
  rw [← hW2, ← hR, ← hS]
  clear hW2 hR hS
  go_upto_region 2 with (fail)
  change Code.wp Tryz.prog _ _ _ (W2.alloc (.cells (fsc 2 0 (.slice none 0 0) (.slice none 0 0) false 0 tg0 false) 39))
  rw [← hW3, ← HQ2.out]
  clear hW3 k0
  go_upto_region 16 with (fail)
  obtain ⟨W4, hW4⟩ : ∃ X, X = (W3.setCell ⟨Q, 1, none⟩ (.int .i64 n)) := ⟨_, rfl⟩
  have hs4 : W4.heap[Q]? = some (.cells (fsc 2 n (.slice none 0 0) (.slice none 0 0) false 0 tg0 false) 39 (0, 0)) := by rw [hW4]; exact (set_obj (i := 1) HQ3.out _)
  have hz4 : W4.heap[R]? = some (.cells (fsc 0 0 (.slice none 0 0) (.slice none 0 0) false 0 tg0 false) 39 (0, 0)) := by rw [hW4]; exact (set_obj_other HZ3.out HRQ.out.2.2 _)
  have HG4 : Hid (Gr w W4) := Lib.hid (by rw [hW4]; exact (HG3.out.setCell HRQ.out.2.1 _))
  rw [← hW4]
  clear hW4 k3 v1 q1 f1
  go_wp2_with (first | (refine wpList_load_row rfl 39 (.tmp 3) rfl Q rfl 39 (fsc 2 n (.slice none 0 0) (.slice none 0 0) false 0 tg0 false) (0, 0) _ hs4 Tryz.underlying39 rfl sinfo ?_) | (refine wpList_store_row rfl 39 (.tmp 2) (.tmp 49) rfl R (fsc 2 n (.slice none 0 0) (.slice none 0 0) false 0 tg0 false) rfl rfl 39 _ hz4 sinfo rfl (fsc_ones _ _ _ _ _ _ _ _ _ _ _ _) ?_))
  have hzf := setRow_heap W4 R _ (fsc 2 n (.slice none 0 0) (.slice none 0 0) false 0 tg0 false) 39 _ hz4
  have HZF := Lib.hid hzf
  have hgr := below_setRow HG4.out HRQ.out.1 (fsc 2 n (.slice none 0 0) (.slice none 0 0) false 0 tg0 false)
  clear hzf
  go_wp2_with fail
  exact bodyPost_ret (results_cell_row Tryz.results46 _ _ R 39 (fsc 2 n (.slice none 0 0) (.slice none 0 0) false 0 tg0 false) (0, 0) _ rfl HZF.out Tryz.underlying39 rfl sinfo) rfl ⟨rfl, hgr⟩
set_option maxRecDepth 100000 in
set_option maxHeartbeats 4000000 in
theorem named3_any (n : Int) (A1 A2 : Option Addr) (n1 c1 n2 c2 : Nat) (has : Bool) (st : Nat) (top : TG) (df : Bool) (w : World) :
    Calls Tryz.prog 46 #[.agg (fsc 3 n (.slice A1 n1 c1) (.slice A2 n2 c2) has st top df)] w fun e w' => e = .returned (.agg (fsc 3 0 (.slice none 0 0) (.slice A2 n2 c2) false 0 tg0 false)) ∧ Gr w w' := by
  obtain ⟨W1, hW1, hg1, hs1⟩ : ∃ W, W = w.alloc (.cells (fsc 3 n (.slice A1 n1 c1) (.slice A2 n2 c2) has st top df) 39) ∧ Gr w W ∧ W.heap[w.heap.size]? = some (.cells (fsc 3 n (.slice A1 n1 c1) (.slice A2 n2 c2) has st top df) 39 (0, 0)) := ⟨_, rfl, (Gr.refl _).alloc _, heap_alloc _ _ _⟩
  obtain ⟨W2, hW2, hg2, hz2⟩ : ∃ W, W = W1.alloc (.cells (fsc 0 0 (.slice none 0 0) (.slice none 0 0) false 0 tg0 false) 39) ∧ Gr W1 W ∧ W.heap[W1.heap.size]? = some (.cells (fsc 0 0 (.slice none 0 0) (.slice none 0 0) false 0 tg0 false) 39 (0, 0)) := ⟨_, rfl, (Gr.refl _).alloc _, heap_alloc _ _ _⟩
  obtain ⟨W3, hW3, hg3, hq3⟩ : ∃ W, W = W2.alloc (.cells (fsc 3 0 (.slice none 0 0) (.slice none 0 0) false 0 tg0 false) 39) ∧ Gr W2 W ∧ W.heap[W2.heap.size]? = some (.cells (fsc 3 0 (.slice none 0 0) (.slice none 0 0) false 0 tg0 false) 39 (0, 0)) := ⟨_, rfl, (Gr.refl _).alloc _, heap_alloc _ _ _⟩
  have e1 : W1.heap.size = w.heap.size + 1 := by rw [hW1]; simp
  have e2 : W2.heap.size = w.heap.size + 1 + 1 := by rw [hW2]; simp [e1]
  obtain ⟨S, hS⟩ : ∃ S, S = w.heap.size := ⟨_, rfl⟩
  obtain ⟨R, hR⟩ : ∃ S, S = w.heap.size + 1 := ⟨_, rfl⟩
  obtain ⟨Q, hQ⟩ : ∃ S, S = w.heap.size + 1 + 1 := ⟨_, rfl⟩
  rw [← hS] at hs1
  rw [e1, ← hR] at hz2
  rw [e2, ← hQ] at hq3
  have hs2 := gr_obj hg2 hs1
  have hs3 := gr_obj hg3 hs2
  have hz3 := gr_obj hg3 hz2
  have HG3 := Lib.hid ((hg1.trans hg2).trans hg3)
  have HRQ : Hid (w.heap.size ≤ R ∧ w.heap.size ≤ Q ∧ R ≠ Q) := Lib.hid ⟨by omega, by omega, by omega⟩
  have k0 : W2.cell? ⟨S, 0, none⟩ = some (.int .i64 3) := by rw [cell_of_block hs2]; rfl
  have k3 : W3.cell? ⟨S, 0, none⟩ = some (.int .i64 3) := by rw [cell_of_block hs3]; rfl
  have v3 : W3.cell? ⟨S, 3, none⟩ = some (.slice A2 n2 c2) := by rw [cell_of_block hs3]; rfl
  have q3 : W3.cell? ⟨Q, 3, none⟩ = some (.slice none 0 0) := by rw [cell_of_block hq3]; rfl
  have f3 := unfrozen_of_block hq3 3
  have HQ3 := Lib.hid hq3
  have HZ3 := Lib.hid hz3
  rw [hW1] at hW2
  have HQ2 : Hid (Q = W2.heap.size) := Lib.hid (by rw [hQ, e2])
  clear hg1 hg2 hg3 hs1 hz2 hs2 e1 e2 hQ hW1 hs3 hz3 hq3
  go_enter Tryz.func46, Tryz.ntmps46
  go_upto_region 1 with (fail)
  change Code.wp Tryz.prog _ _ _ ((w.alloc (.cells (fsc 3 n (.slice A1 n1 c1) (.slice A2 n2 c2) has st top df) 39)).alloc (.cells (fsc 0 0 (.slice none 0 0) (.slice none 0 0) false 0 tg0 false) 39))
  rw [← hW2, ← hR, ← hS]
  clear hW2 hR hS
  go_upto_region 2 with (fail)
  change Code.wp Tryz.prog _ _ _ (W2.alloc (.cells (fsc 3 0 (.slice none 0 0) (.slice none 0 0) false 0 tg0 false) 39))
  rw [← hW3, ← HQ2.out]
  clear hW3 k0
  go_upto_region 16 with (fail)
  obtain ⟨W4, hW4⟩ : ∃ X, X = (W3.setCell ⟨Q, 3, none⟩ (.slice A2 n2 c2)) := ⟨_, rfl⟩
  have hs4 : W4.heap[Q]? = some (.cells (fsc 3 0 (.slice none 0 0) (.slice A2 n2 c2) false 0 tg0 false) 39 (0, 0)) := by rw [hW4]; exact (set_obj (i := 3) HQ3.out _)
  have hz4 : W4.heap[R]? = some (.cells (fsc 0 0 (.slice none 0 0) (.slice none 0 0) false 0 tg0 false) 39 (0, 0)) := by rw [hW4]; exact (set_obj_other HZ3.out HRQ.out.2.2 _)
  have HG4 : Hid (Gr w W4) := Lib.hid (by rw [hW4]; exact (HG3.out.setCell HRQ.out.2.1 _))
  rw [← hW4]
  clear hW4 k3 v3 q3 f3
  go_wp2_with (first | (refine wpList_load_row rfl 39 (.tmp 3) rfl Q rfl 39 (fsc 3 0 (.slice none 0 0) (.slice A2 n2 c2) false 0 tg0 false) (0, 0) _ hs4 Tryz.underlying39 rfl sinfo ?_) | (refine wpList_store_row rfl 39 (.tmp 2) (.tmp 49) rfl R (fsc 3 0 (.slice none 0 0) (.slice A2 n2 c2) false 0 tg0 false) rfl rfl 39 _ hz4 sinfo rfl (fsc_ones _ _ _ _ _ _ _ _ _ _ _ _) ?_))
  have hzf := setRow_heap W4 R _ (fsc 3 0 (.slice none 0 0) (.slice A2 n2 c2) false 0 tg0 false) 39 _ hz4
  have HZF := Lib.hid hzf
  have hgr := below_setRow HG4.out HRQ.out.1 (fsc 3 0 (.slice none 0 0) (.slice A2 n2 c2) false 0 tg0 false)
  clear hzf
  go_wp2_with fail
  exact bodyPost_ret (results_cell_row Tryz.results46 _ _ R 39 (fsc 3 0 (.slice none 0 0) (.slice A2 n2 c2) false 0 tg0 false) (0, 0) _ rfl HZF.out Tryz.underlying39 rfl sinfo) rfl ⟨rfl, hgr⟩
set_option maxRecDepth 100000 in
set_option maxHeartbeats 4000000 in
theorem named4_any (n : Int) (A1 A2 : Option Addr) (n1 c1 n2 c2 : Nat) (has : Bool) (st : Nat) (top : TG) (df : Bool) (w : World) :
    Calls Tryz.prog 46 #[.agg (fsc 4 n (.slice A1 n1 c1) (.slice A2 n2 c2) has st top df)] w fun e w' => e = .returned (.agg (fsc 4 0 (.slice A1 n1 c1) (.slice A2 n2 c2) false 0 tg0 false)) ∧ Gr w w' := by
  obtain ⟨W1, hW1, hg1, hs1⟩ : ∃ W, W = w.alloc (.cells (fsc 4 n (.slice A1 n1 c1) (.slice A2 n2 c2) has st top df) 39) ∧ Gr w W ∧ W.heap[w.heap.size]? = some (.cells (fsc 4 n (.slice A1 n1 c1) (.slice A2 n2 c2) has st top df) 39 (0, 0)) := ⟨_, rfl, (Gr.refl _).alloc _, heap_alloc _ _ _⟩
  obtain ⟨W2, hW2, hg2, hz2⟩ : ∃ W, W = W1.alloc (.cells (fsc 0 0 (.slice none 0 0) (.slice none 0 0) false 0 tg0 false) 39) ∧ Gr W1 W ∧ W.heap[W1.heap.size]? = some (.cells (fsc 0 0 (.slice none 0 0) (.slice none 0 0) false 0 tg0 false) 39 (0, 0)) := ⟨_, rfl, (Gr.refl _).alloc _, heap_alloc _ _ _⟩
  obtain ⟨W3, hW3, hg3, hq3⟩ : ∃ W, W = W2.alloc (.cells (fsc 4 0 (.slice none 0 0) (.slice none 0 0) false 0 tg0 false) 39) ∧ Gr W2 W ∧ W.heap[W2.heap.size]? = some (.cells (fsc 4 0 (.slice none 0 0) (.slice none 0 0) false 0 tg0 false) 39 (0, 0)) := ⟨_, rfl, (Gr.refl _).alloc _, heap_alloc _ _ _⟩
  have e1 : W1.heap.size = w.heap.size + 1 := by rw [hW1]; simp
  have e2 : W2.heap.size = w.heap.size + 1 + 1 := by rw [hW2]; simp [e1]
  obtain ⟨S, hS⟩ : ∃ S, S = w.heap.size := ⟨_, rfl⟩
  obtain ⟨R, hR⟩ : ∃ S, S = w.heap.size + 1 := ⟨_, rfl⟩
  obtain ⟨Q, hQ⟩ : ∃ S, S = w.heap.size + 1 + 1 := ⟨_, rfl⟩
  rw [← hS] at hs1
  rw [e1, ← hR] at hz2
  rw [e2, ← hQ] at hq3
  have hs2 := gr_obj hg2 hs1
  have hs3 := gr_obj hg3 hs2
  have hz3 := gr_obj hg3 hz2
  have HG3 := Lib.hid ((hg1.trans hg2).trans hg3)
  have HRQ : Hid (w.heap.size ≤ R ∧ w.heap.size ≤ Q ∧ R ≠ Q) := Lib.hid ⟨by omega, by omega, by omega⟩
  have k0 : W2.cell? ⟨S, 0, none⟩ = some (.int .i64 4) := by rw [cell_of_block hs2]; rfl
  have k3 : W3.cell? ⟨S, 0, none⟩ = some (.int .i64 4) := by rw [cell_of_block hs3]; rfl
  have v2 : W3.cell? ⟨S, 2, none⟩ = some (.slice A1 n1 c1) := by rw [cell_of_block hs3]; rfl
  have q2 : W3.cell? ⟨Q, 2, none⟩ = some (.slice none 0 0) := by rw [cell_of_block hq3]; rfl
  have f2 := unfrozen_of_block hq3 2
  have v3 : W3.cell? ⟨S, 3, none⟩ = some (.slice A2 n2 c2) := by rw [cell_of_block hs3]; rfl
  have q3 : W3.cell? ⟨Q, 3, none⟩ = some (.slice none 0 0) := by rw [cell_of_block hq3]; rfl
  have f3 := unfrozen_of_block hq3 3
  have HQ3 := Lib.hid hq3
  have HZ3 := Lib.hid hz3
  rw [hW1] at hW2
  have HQ2 : Hid (Q = W2.heap.size) := Lib.hid (by rw [hQ, e2])
  clear hg1 hg2 hg3 hs1 hz2 hs2 e1 e2 hQ hW1 hs3 hz3 hq3
  go_enter Tryz.func46, Tryz.ntmps46
  go_upto_region 1 with (fail)
  change Code.wp Tryz.prog _ _ _ ((w.alloc (.cells (fsc 4 n (.slice A1 n1 c1) (.slice A2 n2 c2) has st top df) 39)).alloc (.cells (fsc 0 0 (.slice none 0 0) (.slice none 0 0) false 0 tg0 false) 39))
  rw [← hW2, ← hR, ← hS]
  clear hW2 hR hS
  go_upto_region 2 with (fail)
  change Code.wp Tryz.prog _ _ _ (W2.alloc (.cells (fsc 4 0 (.slice none 0 0) (.slice none 0 0) false 0 tg0 false) 39))
  rw [← hW3, ← HQ2.out]
  clear hW3 k0
  go_upto_region 11 with (fail)
  go_region
  go_upto_region 16 with (fail)
  obtain ⟨W4, hW4⟩ : ∃ X, X = ((W3.setCell ⟨Q, 2, none⟩ (.slice A1 n1 c1)).setCell ⟨Q, 3, none⟩ (.slice A2 n2 c2)).drew := ⟨_, rfl⟩
  have hs4 : W4.heap[Q]? = some (.cells (fsc 4 0 (.slice A1 n1 c1) (.slice A2 n2 c2) false 0 tg0 false) 39 (0, 0)) := by rw [hW4]; exact (gr_obj (Gr.refl _).drew (set_obj (i := 3) (set_obj (i := 2) HQ3.out _) _))
  have hz4 : W4.heap[R]? = some (.cells (fsc 0 0 (.slice none 0 0) (.slice none 0 0) false 0 tg0 false) 39 (0, 0)) := by rw [hW4]; exact (gr_obj (Gr.refl _).drew (set_obj_other (set_obj_other HZ3.out HRQ.out.2.2 _) HRQ.out.2.2 _))
  have HG4 : Hid (Gr w W4) := Lib.hid (by rw [hW4]; exact ((HG3.out.setCell HRQ.out.2.1 _).setCell HRQ.out.2.1 _).drew)
  rw [← hW4]
  clear hW4 k3 v2 q2 f2 v3 q3 f3
  go_wp2_with (first | (refine wpList_load_row rfl 39 (.tmp 3) rfl Q rfl 39 (fsc 4 0 (.slice A1 n1 c1) (.slice A2 n2 c2) false 0 tg0 false) (0, 0) _ hs4 Tryz.underlying39 rfl sinfo ?_) | (refine wpList_store_row rfl 39 (.tmp 2) (.tmp 49) rfl R (fsc 4 0 (.slice A1 n1 c1) (.slice A2 n2 c2) false 0 tg0 false) rfl rfl 39 _ hz4 sinfo rfl (fsc_ones _ _ _ _ _ _ _ _ _ _ _ _) ?_))
  have hzf := setRow_heap W4 R _ (fsc 4 0 (.slice A1 n1 c1) (.slice A2 n2 c2) false 0 tg0 false) 39 _ hz4
  have HZF := Lib.hid hzf
  have hgr := below_setRow HG4.out HRQ.out.1 (fsc 4 0 (.slice A1 n1 c1) (.slice A2 n2 c2) false 0 tg0 false)
  clear hzf
  go_wp2_with fail
  exact bodyPost_ret (results_cell_row Tryz.results46 _ _ R 39 (fsc 4 0 (.slice A1 n1 c1) (.slice A2 n2 c2) false 0 tg0 false) (0, 0) _ rfl HZF.out Tryz.underlying39 rfl sinfo) rfl ⟨rfl, hgr⟩
set_option maxRecDepth 100000 in
set_option maxHeartbeats 4000000 in
theorem named5_any (n : Int) (A1 A2 : Option Addr) (n1 c1 n2 c2 : Nat) (has : Bool) (st : Nat) (top : TG) (df : Bool) (w : World) :
    Calls Tryz.prog 46 #[.agg (fsc 5 n (.slice A1 n1 c1) (.slice A2 n2 c2) has st top df)] w fun e w' => e = .returned (.agg (fsc 5 0 (.slice none 0 0) (.slice none 0 0) has st top false)) ∧ Gr w w' := by
  obtain ⟨W1, hW1, hg1, hs1⟩ : ∃ W, W = w.alloc (.cells (fsc 5 n (.slice A1 n1 c1) (.slice A2 n2 c2) has st top df) 39) ∧ Gr w W ∧ W.heap[w.heap.size]? = some (.cells (fsc 5 n (.slice A1 n1 c1) (.slice A2 n2 c2) has st top df) 39 (0, 0)) := ⟨_, rfl, (Gr.refl _).alloc _, heap_alloc _ _ _⟩
  obtain ⟨W2, hW2, hg2, hz2⟩ : ∃ W, W = W1.alloc (.cells (fsc 0 0 (.slice none 0 0) (.slice none 0 0) false 0 tg0 false) 39) ∧ Gr W1 W ∧ W.heap[W1.heap.size]? = some (.cells (fsc 0 0 (.slice none 0 0) (.slice none 0 0) false 0 tg0 false) 39 (0, 0)) := ⟨_, rfl, (Gr.refl _).alloc _, heap_alloc _ _ _⟩
  obtain ⟨W3, hW3, hg3, hq3⟩ : ∃ W, W = W2.alloc (.cells (fsc 5 0 (.slice none 0 0) (.slice none 0 0) false 0 tg0 false) 39) ∧ Gr W2 W ∧ W.heap[W2.heap.size]? = some (.cells (fsc 5 0 (.slice none 0 0) (.slice none 0 0) false 0 tg0 false) 39 (0, 0)) := ⟨_, rfl, (Gr.refl _).alloc _, heap_alloc _ _ _⟩
  have e1 : W1.heap.size = w.heap.size + 1 := by rw [hW1]; simp
  have e2 : W2.heap.size = w.heap.size + 1 + 1 := by rw [hW2]; simp [e1]
  obtain ⟨S, hS⟩ : ∃ S, S = w.heap.size := ⟨_, rfl⟩
  obtain ⟨R, hR⟩ : ∃ S, S = w.heap.size + 1 := ⟨_, rfl⟩
  obtain ⟨Q, hQ⟩ : ∃ S, S = w.heap.size + 1 + 1 := ⟨_, rfl⟩
  rw [← hS] at hs1
  rw [e1, ← hR] at hz2
  rw [e2, ← hQ] at hq3
  have hs2 := gr_obj hg2 hs1
  have hs3 := gr_obj hg3 hs2
  have hz3 := gr_obj hg3 hz2
  have HG3 := Lib.hid ((hg1.trans hg2).trans hg3)
  have HRQ : Hid (w.heap.size ≤ R ∧ w.heap.size ≤ Q ∧ R ≠ Q) := Lib.hid ⟨by omega, by omega, by omega⟩
  have k0 : W2.cell? ⟨S, 0, none⟩ = some (.int .i64 5) := by rw [cell_of_block hs2]; rfl
  have k3 : W3.cell? ⟨S, 0, none⟩ = some (.int .i64 5) := by rw [cell_of_block hs3]; rfl
  have v4 : W3.cell? ⟨S, 4, none⟩ = some (.bool has) := by rw [cell_of_block hs3]; rfl
  have q4 : W3.cell? ⟨Q, 4, none⟩ = some (.bool false) := by rw [cell_of_block hq3]; rfl
  have f4 := unfrozen_of_block hq3 4
  have v5 : W3.cell? ⟨S, 5, none⟩ = some (.int .u64 (st : Int)) := by rw [cell_of_block hs3]; rfl
  have q5 : W3.cell? ⟨Q, 5, none⟩ = some (.int .u64 0) := by rw [cell_of_block hq3]; rfl
  have f5 := unfrozen_of_block hq3 5
  have v6 : W3.cell? ⟨S, 6, none⟩ = some (.int .i64 top.o) := by rw [cell_of_block hs3]; rfl
  have q6 : W3.cell? ⟨Q, 6, none⟩ = some (.int .i64 0) := by rw [cell_of_block hq3]; rfl
  have f6 := unfrozen_of_block hq3 6
  have v7 : W3.cell? ⟨S, 7, none⟩ = some (.int .i64 top.i) := by rw [cell_of_block hs3]; rfl
  have q7 : W3.cell? ⟨Q, 7, none⟩ = some (.int .i64 0) := by rw [cell_of_block hq3]; rfl
  have f7 := unfrozen_of_block hq3 7
  have v8 : W3.cell? ⟨S, 8, none⟩ = some (.int .u64 (top.s : Int)) := by rw [cell_of_block hs3]; rfl
  have q8 : W3.cell? ⟨Q, 8, none⟩ = some (.int .u64 0) := by rw [cell_of_block hq3]; rfl
  have f8 := unfrozen_of_block hq3 8
  have v9 : W3.cell? ⟨S, 9, none⟩ = some (.string top.e) := by rw [cell_of_block hs3]; rfl
  have q9 : W3.cell? ⟨Q, 9, none⟩ = some (.string ⟨#[]⟩) := by rw [cell_of_block hq3]; rfl
  have f9 := unfrozen_of_block hq3 9
  have HQ3 := Lib.hid hq3
  have HZ3 := Lib.hid hz3
  rw [hW1] at hW2
  have HQ2 : Hid (Q = W2.heap.size) := Lib.hid (by rw [hQ, e2])
  clear hg1 hg2 hg3 hs1 hz2 hs2 e1 e2 hQ hW1 hs3 hz3 hq3
  go_enter Tryz.func46, Tryz.ntmps46
  go_upto_region 1 with (fail)
  change Code.wp Tryz.prog _ _ _ ((w.alloc (.cells (fsc 5 n (.slice A1 n1 c1) (.slice A2 n2 c2) has st top df) 39)).alloc (.cells (fsc 0 0 (.slice none 0 0) (.slice none 0 0) false 0 tg0 false) 39))
  rw [← hW2, ← hR, ← hS]
  clear hW2 hR hS
  go_upto_region 2 with (fail)
  change Code.wp Tryz.prog _ _ _ (W2.alloc (.cells (fsc 5 0 (.slice none 0 0) (.slice none 0 0) false 0 tg0 false) 39))
  rw [← hW3, ← HQ2.out]
  clear hW3 k0
  go_upto_region 13 with (fail)
  go_region
  go_upto_region 16 with (fail)
  obtain ⟨W4, hW4⟩ : ∃ X, X = ((((((W3.setCell ⟨Q, 4, none⟩ (.bool has)).setCell ⟨Q, 5, none⟩ (.int .u64 (st : Int))).setCell ⟨Q, 6, none⟩ (.int .i64 top.o)).setCell ⟨Q, 7, none⟩ (.int .i64 top.i)).setCell ⟨Q, 8, none⟩ (.int .u64 (top.s : Int))).setCell ⟨Q, 9, none⟩ (.string top.e)).drew := ⟨_, rfl⟩
  have hs4 : W4.heap[Q]? = some (.cells (fsc 5 0 (.slice none 0 0) (.slice none 0 0) has st top false) 39 (0, 0)) := by rw [hW4]; exact (gr_obj (Gr.refl _).drew (set_obj (i := 9) (set_obj (i := 8) (set_obj (i := 7) (set_obj (i := 6) (set_obj (i := 5) (set_obj (i := 4) HQ3.out _) _) _) _) _) _))
  have hz4 : W4.heap[R]? = some (.cells (fsc 0 0 (.slice none 0 0) (.slice none 0 0) false 0 tg0 false) 39 (0, 0)) := by rw [hW4]; exact (gr_obj (Gr.refl _).drew (set_obj_other (set_obj_other (set_obj_other (set_obj_other (set_obj_other (set_obj_other HZ3.out HRQ.out.2.2 _) HRQ.out.2.2 _) HRQ.out.2.2 _) HRQ.out.2.2 _) HRQ.out.2.2 _) HRQ.out.2.2 _))
  have HG4 : Hid (Gr w W4) := Lib.hid (by rw [hW4]; exact ((((((HG3.out.setCell HRQ.out.2.1 _).setCell HRQ.out.2.1 _).setCell HRQ.out.2.1 _).setCell HRQ.out.2.1 _).setCell HRQ.out.2.1 _).setCell HRQ.out.2.1 _).drew)
  rw [← hW4]
  clear hW4 k3 v4 q4 f4 v5 q5 f5 v6 q6 f6 v7 q7 f7 v8 q8 f8 v9 q9 f9
  go_wp2_with (first | (refine wpList_load_row rfl 39 (.tmp 3) rfl Q rfl 39 (fsc 5 0 (.slice none 0 0) (.slice none 0 0) has st top false) (0, 0) _ hs4 Tryz.underlying39 rfl sinfo ?_) | (refine wpList_store_row rfl 39 (.tmp 2) (.tmp 49) rfl R (fsc 5 0 (.slice none 0 0) (.slice none 0 0) has st top false) rfl rfl 39 _ hz4 sinfo rfl (fsc_ones _ _ _ _ _ _ _ _ _ _ _ _) ?_))
  have hzf := setRow_heap W4 R _ (fsc 5 0 (.slice none 0 0) (.slice none 0 0) has st top false) 39 _ hz4
  have HZF := Lib.hid hzf
  have hgr := below_setRow HG4.out HRQ.out.1 (fsc 5 0 (.slice none 0 0) (.slice none 0 0) has st top false)
  clear hzf
  go_wp2_with fail
  exact bodyPost_ret (results_cell_row Tryz.results46 _ _ R 39 (fsc 5 0 (.slice none 0 0) (.slice none 0 0) has st top false) (0, 0) _ rfl HZF.out Tryz.underlying39 rfl sinfo) rfl ⟨rfl, hgr⟩
set_option maxRecDepth 100000 in
set_option maxHeartbeats 4000000 in
theorem named6_any (n : Int) (A1 A2 : Option Addr) (n1 c1 n2 c2 : Nat) (has : Bool) (st : Nat) (top : TG) (df : Bool) (w : World) :
    Calls Tryz.prog 46 #[.agg (fsc 6 n (.slice A1 n1 c1) (.slice A2 n2 c2) has st top df)] w fun e w' => e = .returned (.agg (fsc 6 0 (.slice none 0 0) (.slice A2 n2 c2) false 0 tg0 false)) ∧ Gr w w' := by
  obtain ⟨W1, hW1, hg1, hs1⟩ : ∃ W, W = w.alloc (.cells (fsc 6 n (.slice A1 n1 c1) (.slice A2 n2 c2) has st top df) 39) ∧ Gr w W ∧ W.heap[w.heap.size]? = some (.cells (fsc 6 n (.slice A1 n1 c1) (.slice A2 n2 c2) has st top df) 39 (0, 0)) := ⟨_, rfl, (Gr.refl _).alloc _, heap_alloc _ _ _⟩
  obtain ⟨W2, hW2, hg2, hz2⟩ : ∃ W, W = W1.alloc (.cells (fsc 0 0 (.slice none 0 0) (.slice none 0 0) false 0 tg0 false) 39) ∧ Gr W1 W ∧ W.heap[W1.heap.size]? = some (.cells (fsc 0 0 (.slice none 0 0) (.slice none 0 0) false 0 tg0 false) 39 (0, 0)) := ⟨_, rfl, (Gr.refl _).alloc _, heap_alloc _ _ _⟩
  obtain ⟨W3, hW3, hg3, hq3⟩ : ∃ W, W = W2.alloc (.cells (fsc 6 0 (.slice none 0 0) (.slice none 0 0) false 0 tg0 false) 39) ∧ Gr W2 W ∧ W.heap[W2.heap.size]? = some (.cells (fsc 6 0 (.slice none 0 0) (.slice none 0 0) false 0 tg0 false) 39 (0, 0)) := ⟨_, rfl, (Gr.refl _).alloc _, heap_alloc _ _ _⟩
  have e1 : W1.heap.size = w.heap.size + 1 := by rw [hW1]; simp
  have e2 : W2.heap.size = w.heap.size + 1 + 1 := by rw [hW2]; simp [e1]
  obtain ⟨S, hS⟩ : ∃ S, S = w.heap.size := ⟨_, rfl⟩
  obtain ⟨R, hR⟩ : ∃ S, S = w.heap.size + 1 := ⟨_, rfl⟩
  obtain ⟨Q, hQ⟩ : ∃ S, S = w.heap.size + 1 + 1 := ⟨_, rfl⟩
  rw [← hS] at hs1
  rw [e1, ← hR] at hz2
  rw [e2, ← hQ] at hq3
  have hs2 := gr_obj hg2 hs1
  have hs3 := gr_obj hg3 hs2
  have hz3 := gr_obj hg3 hz2
  have HG3 := Lib.hid ((hg1.trans hg2).trans hg3)
  have HRQ : Hid (w.heap.size ≤ R ∧ w.heap.size ≤ Q ∧ R ≠ Q) := Lib.hid ⟨by omega, by omega, by omega⟩
  have k0 : W2.cell? ⟨S, 0, none⟩ = some (.int .i64 6) := by rw [cell_of_block hs2]; rfl
  have k3 : W3.cell? ⟨S, 0, none⟩ = some (.int .i64 6) := by rw [cell_of_block hs3]; rfl
  have v3 : W3.cell? ⟨S, 3, none⟩ = some (.slice A2 n2 c2) := by rw [cell_of_block hs3]; rfl
  have q3 : W3.cell? ⟨Q, 3, none⟩ = some (.slice none 0 0) := by rw [cell_of_block hq3]; rfl
  have f3 := unfrozen_of_block hq3 3
  have HQ3 := Lib.hid hq3
  have HZ3 := Lib.hid hz3
  rw [hW1] at hW2
  have HQ2 : Hid (Q = W2.heap.size) := Lib.hid (by rw [hQ, e2])
  clear hg1 hg2 hg3 hs1 hz2 hs2 e1 e2 hQ hW1 hs3 hz3 hq3
  go_enter Tryz.func46, Tryz.ntmps46
  go_upto_region 1 with (fail)
  change Code.wp Tryz.prog _ _ _ ((w.alloc (.cells (fsc 6 n (.slice A1 n1 c1) (.slice A2 n2 c2) has st top df) 39)).alloc (.cells (fsc 0 0 (.slice none 0 0) (.slice none 0 0) false 0 tg0 false) 39))
  rw [← hW2, ← hR, ← hS]
  clear hW2 hR hS
  go_upto_region 2 with (fail)
  change Code.wp Tryz.prog _ _ _ (W2.alloc (.cells (fsc 6 0 (.slice none 0 0) (.slice none 0 0) false 0 tg0 false) 39))
  rw [← hW3, ← HQ2.out]
  clear hW3 k0
  go_upto_region 16 with (fail)
  obtain ⟨W4, hW4⟩ : ∃ X, X = (W3.setCell ⟨Q, 3, none⟩ (.slice A2 n2 c2)) := ⟨_, rfl⟩
  have hs4 : W4.heap[Q]? = some (.cells (fsc 6 0 (.slice none 0 0) (.slice A2 n2 c2) false 0 tg0 false) 39 (0, 0)) := by rw [hW4]; exact (set_obj (i := 3) HQ3.out _)
  have hz4 : W4.heap[R]? = some (.cells (fsc 0 0 (.slice none 0 0) (.slice none 0 0) false 0 tg0 false) 39 (0, 0)) := by rw [hW4]; exact (set_obj_other HZ3.out HRQ.out.2.2 _)
  have HG4 : Hid (Gr w W4) := Lib.hid (by rw [hW4]; exact (HG3.out.setCell HRQ.out.2.1 _))
  rw [← hW4]
  clear hW4 k3 v3 q3 f3
  go_wp2_with (first | (refine wpList_load_row rfl 39 (.tmp 3) rfl Q rfl 39 (fsc 6 0 (.slice none 0 0) (.slice A2 n2 c2) false 0 tg0 false) (0, 0) _ hs4 Tryz.underlying39 rfl sinfo ?_) | (refine wpList_store_row rfl 39 (.tmp 2) (.tmp 49) rfl R (fsc 6 0 (.slice none 0 0) (.slice A2 n2 c2) false 0 tg0 false) rfl rfl 39 _ hz4 sinfo rfl (fsc_ones _ _ _ _ _ _ _ _ _ _ _ _) ?_))
  have hzf := setRow_heap W4 R _ (fsc 6 0 (.slice none 0 0) (.slice A2 n2 c2) false 0 tg0 false) 39 _ hz4
  have HZF := Lib.hid hzf
  have hgr := below_setRow HG4.out HRQ.out.1 (fsc 6 0 (.slice none 0 0) (.slice A2 n2 c2) false 0 tg0 false)
  clear hzf
  go_wp2_with fail
  exact bodyPost_ret (results_cell_row Tryz.results46 _ _ R 39 (fsc 6 0 (.slice none 0 0) (.slice A2 n2 c2) false 0 tg0 false) (0, 0) _ rfl HZF.out Tryz.underlying39 rfl sinfo) rfl ⟨rfl, hgr⟩
set_option maxRecDepth 100000 in
set_option maxHeartbeats 4000000 in
theorem named7_any (n : Int) (A1 A2 : Option Addr) (n1 c1 n2 c2 : Nat) (has : Bool) (st : Nat) (top : TG) (df : Bool) (w : World) :
    Calls Tryz.prog 46 #[.agg (fsc 7 n (.slice A1 n1 c1) (.slice A2 n2 c2) has st top df)] w fun e w' => e = .returned (.agg (fsc 7 0 (.slice none 0 0) (.slice A2 n2 c2) false 0 tg0 df)) ∧ Gr w w' := by
  obtain ⟨W1, hW1, hg1, hs1⟩ : ∃ W, W = w.alloc (.cells (fsc 7 n (.slice A1 n1 c1) (.slice A2 n2 c2) has st top df) 39) ∧ Gr w W ∧ W.heap[w.heap.size]? = some (.cells (fsc 7 n (.slice A1 n1 c1) (.slice A2 n2 c2) has st top df) 39 (0, 0)) := ⟨_, rfl, (Gr.refl _).alloc _, heap_alloc _ _ _⟩
  obtain ⟨W2, hW2, hg2, hz2⟩ : ∃ W, W = W1.alloc (.cells (fsc 0 0 (.slice none 0 0) (.slice none 0 0) false 0 tg0 false) 39) ∧ Gr W1 W ∧ W.heap[W1.heap.size]? = some (.cells (fsc 0 0 (.slice none 0 0) (.slice none 0 0) false 0 tg0 false) 39 (0, 0)) := ⟨_, rfl, (Gr.refl _).alloc _, heap_alloc _ _ _⟩
  obtain ⟨W3, hW3, hg3, hq3⟩ : ∃ W, W = W2.alloc (.cells (fsc 7 0 (.slice none 0 0) (.slice none 0 0) false 0 tg0 false) 39) ∧ Gr W2 W ∧ W.heap[W2.heap.size]? = some (.cells (fsc 7 0 (.slice none 0 0) (.slice none 0 0) false 0 tg0 false) 39 (0, 0)) := ⟨_, rfl, (Gr.refl _).alloc _, heap_alloc _ _ _⟩
  have e1 : W1.heap.size = w.heap.size + 1 := by rw [hW1]; simp
  have e2 : W2.heap.size = w.heap.size + 1 + 1 := by rw [hW2]; simp [e1]
  obtain ⟨S, hS⟩ : ∃ S, S = w.heap.size := ⟨_, rfl⟩
  obtain ⟨R, hR⟩ : ∃ S, S = w.heap.size + 1 := ⟨_, rfl⟩
  obtain ⟨Q, hQ⟩ : ∃ S, S = w.heap.size + 1 + 1 := ⟨_, rfl⟩
  rw [← hS] at hs1
  rw [e1, ← hR] at hz2
  rw [e2, ← hQ] at hq3
  have hs2 := gr_obj hg2 hs1
  have hs3 := gr_obj hg3 hs2
  have hz3 := gr_obj hg3 hz2
  have HG3 := Lib.hid ((hg1.trans hg2).trans hg3)
  have HRQ : Hid (w.heap.size ≤ R ∧ w.heap.size ≤ Q ∧ R ≠ Q) := Lib.hid ⟨by omega, by omega, by omega⟩
  have k0 : W2.cell? ⟨S, 0, none⟩ = some (.int .i64 7) := by rw [cell_of_block hs2]; rfl
  have k3 : W3.cell? ⟨S, 0, none⟩ = some (.int .i64 7) := by rw [cell_of_block hs3]; rfl
  have v3 : W3.cell? ⟨S, 3, none⟩ = some (.slice A2 n2 c2) := by rw [cell_of_block hs3]; rfl
  have q3 : W3.cell? ⟨Q, 3, none⟩ = some (.slice none 0 0) := by rw [cell_of_block hq3]; rfl
  have f3 := unfrozen_of_block hq3 3
  have v10 : W3.cell? ⟨S, 10, none⟩ = some (.bool df) := by rw [cell_of_block hs3]; rfl
  have q10 : W3.cell? ⟨Q, 10, none⟩ = some (.bool false) := by rw [cell_of_block hq3]; rfl
  have f10 := unfrozen_of_block hq3 10
  have HQ3 := Lib.hid hq3
  have HZ3 := Lib.hid hz3
  rw [hW1] at hW2
  have HQ2 : Hid (Q = W2.heap.size) := Lib.hid (by rw [hQ, e2])
  clear hg1 hg2 hg3 hs1 hz2 hs2 e1 e2 hQ hW1 hs3 hz3 hq3
  go_enter Tryz.func46, Tryz.ntmps46
  go_upto_region 1 with (fail)
  change Code.wp Tryz.prog _ _ _ ((w.alloc (.cells (fsc 7 n (.slice A1 n1 c1) (.slice A2 n2 c2) has st top df) 39)).alloc (.cells (fsc 0 0 (.slice none 0 0) (.slice none 0 0) false 0 tg0 false) 39))
  rw [← hW2, ← hR, ← hS]
  clear hW2 hR hS
  go_upto_region 2 with (fail)
  change Code.wp Tryz.prog _ _ _ (W2.alloc (.cells (fsc 7 0 (.slice none 0 0) (.slice none 0 0) false 0 tg0 false) 39))
  rw [← hW3, ← HQ2.out]
  clear hW3 k0
  go_upto_region 15 with (fail)
  go_region
  go_upto_region 16 with (fail)
  obtain ⟨W4, hW4⟩ : ∃ X, X = ((W3.setCell ⟨Q, 3, none⟩ (.slice A2 n2 c2)).setCell ⟨Q, 10, none⟩ (.bool df)).drew := ⟨_, rfl⟩
  have hs4 : W4.heap[Q]? = some (.cells (fsc 7 0 (.slice none 0 0) (.slice A2 n2 c2) false 0 tg0 df) 39 (0, 0)) := by rw [hW4]; exact (gr_obj (Gr.refl _).drew (set_obj (i := 10) (set_obj (i := 3) HQ3.out _) _))
  have hz4 : W4.heap[R]? = some (.cells (fsc 0 0 (.slice none 0 0) (.slice none 0 0) false 0 tg0 false) 39 (0, 0)) := by rw [hW4]; exact (gr_obj (Gr.refl _).drew (set_obj_other (set_obj_other HZ3.out HRQ.out.2.2 _) HRQ.out.2.2 _))
  have HG4 : Hid (Gr w W4) := Lib.hid (by rw [hW4]; exact ((HG3.out.setCell HRQ.out.2.1 _).setCell HRQ.out.2.1 _).drew)
  rw [← hW4]
  clear hW4 k3 v3 q3 f3 v10 q10 f10
  go_wp2_with (first | (refine wpList_load_row rfl 39 (.tmp 3) rfl Q rfl 39 (fsc 7 0 (.slice none 0 0) (.slice A2 n2 c2) false 0 tg0 df) (0, 0) _ hs4 Tryz.underlying39 rfl sinfo ?_) | (refine wpList_store_row rfl 39 (.tmp 2) (.tmp 49) rfl R (fsc 7 0 (.slice none 0 0) (.slice A2 n2 c2) false 0 tg0 df) rfl rfl 39 _ hz4 sinfo rfl (fsc_ones _ _ _ _ _ _ _ _ _ _ _ _) ?_))
  have hzf := setRow_heap W4 R _ (fsc 7 0 (.slice none 0 0) (.slice A2 n2 c2) false 0 tg0 df) 39 _ hz4
  have HZF := Lib.hid hzf
  have hgr := below_setRow HG4.out HRQ.out.1 (fsc 7 0 (.slice none 0 0) (.slice A2 n2 c2) false 0 tg0 df)
  clear hzf
  go_wp2_with fail
  exact bodyPost_ret (results_cell_row Tryz.results46 _ _ R 39 (fsc 7 0 (.slice none 0 0) (.slice A2 n2 c2) false 0 tg0 df) (0, 0) _ rfl HZF.out Tryz.underlying39 rfl sinfo) rfl ⟨rfl, hgr⟩
set_option maxRecDepth 100000 in
set_option maxHeartbeats 4000000 in
theorem named8_any (n : Int) (A1 A2 : Option Addr) (n1 c1 n2 c2 : Nat) (has : Bool) (st : Nat) (top : TG) (df : Bool) (w : World) :
    Calls Tryz.prog 46 #[.agg (fsc 8 n (.slice A1 n1 c1) (.slice A2 n2 c2) has st top df)] w fun e w' => e = .returned (.agg (fsc 8 0 (.slice none 0 0) (.slice A2 n2 c2) false 0 tg0 false)) ∧ Gr w w' := by
  obtain ⟨W1, hW1, hg1, hs1⟩ : ∃ W, W = w.alloc (.cells (fsc 8 n (.slice A1 n1 c1) (.slice A2 n2 c2) has st top df) 39) ∧ Gr w W ∧ W.heap[w.heap.size]? = some (.cells (fsc 8 n (.slice A1 n1 c1) (.slice A2 n2 c2) has st top df) 39 (0, 0)) := ⟨_, rfl, (Gr.refl _).alloc _, heap_alloc _ _ _⟩
  obtain ⟨W2, hW2, hg2, hz2⟩ : ∃ W, W = W1.alloc (.cells (fsc 0 0 (.slice none 0 0) (.slice none 0 0) false 0 tg0 false) 39) ∧ Gr W1 W ∧ W.heap[W1.heap.size]? = some (.cells (fsc 0 0 (.slice none 0 0) (.slice none 0 0) false 0 tg0 false) 39 (0, 0)) := ⟨_, rfl, (Gr.refl _).alloc _, heap_alloc _ _ _⟩
  obtain ⟨W3, hW3, hg3, hq3⟩ : ∃ W, W = W2.alloc (.cells (fsc 8 0 (.slice none 0 0) (.slice none 0 0) false 0 tg0 false) 39) ∧ Gr W2 W ∧ W.heap[W2.heap.size]? = some (.cells (fsc 8 0 (.slice none 0 0) (.slice none 0 0) false 0 tg0 false) 39 (0, 0)) := ⟨_, rfl, (Gr.refl _).alloc _, heap_alloc _ _ _⟩
  have e1 : W1.heap.size = w.heap.size + 1 := by rw [hW1]; simp
  have e2 : W2.heap.size = w.heap.size + 1 + 1 := by rw [hW2]; simp [e1]
  obtain ⟨S, hS⟩ : ∃ S, S = w.heap.size := ⟨_, rfl⟩
  obtain ⟨R, hR⟩ : ∃ S, S = w.heap.size + 1 := ⟨_, rfl⟩
  obtain ⟨Q, hQ⟩ : ∃ S, S = w.heap.size + 1 + 1 := ⟨_, rfl⟩
  rw [← hS] at hs1
  rw [e1, ← hR] at hz2
  rw [e2, ← hQ] at hq3
  have hs2 := gr_obj hg2 hs1
  have hs3 := gr_obj hg3 hs2
  have hz3 := gr_obj hg3 hz2
  have HG3 := Lib.hid ((hg1.trans hg2).trans hg3)
  have HRQ : Hid (w.heap.size ≤ R ∧ w.heap.size ≤ Q ∧ R ≠ Q) := Lib.hid ⟨by omega, by omega, by omega⟩
  have k0 : W2.cell? ⟨S, 0, none⟩ = some (.int .i64 8) := by rw [cell_of_block hs2]; rfl
  have k3 : W3.cell? ⟨S, 0, none⟩ = some (.int .i64 8) := by rw [cell_of_block hs3]; rfl
  have v3 : W3.cell? ⟨S, 3, none⟩ = some (.slice A2 n2 c2) := by rw [cell_of_block hs3]; rfl
  have q3 : W3.cell? ⟨Q, 3, none⟩ = some (.slice none 0 0) := by rw [cell_of_block hq3]; rfl
  have f3 := unfrozen_of_block hq3 3
  have HQ3 := Lib.hid hq3
  have HZ3 := Lib.hid hz3
  rw [hW1] at hW2
  have HQ2 : Hid (Q = W2.heap.size) := Lib.hid (by rw [hQ, e2])
  clear hg1 hg2 hg3 hs1 hz2 hs2 e1 e2 hQ hW1 hs3 hz3 hq3
  go_enter Tryz.func46, Tryz.ntmps46
  go_upto_region 1 with (fail)
  change Code.wp Tryz.prog _ _ _ ((w.alloc (.cells (fsc 8 n (.slice A1 n1 c1) (.slice A2 n2 c2) has st top df) 39)).alloc (.cells (fsc 0 0 (.slice none 0 0) (.slice none 0 0) false 0 tg0 false) 39))
  rw [← hW2, ← hR, ← hS]
  clear hW2 hR hS
  go_upto_region 2 with (fail)
  change Code.wp Tryz.prog _ _ _ (W2.alloc (.cells (fsc 8 0 (.slice none 0 0) (.slice none 0 0) false 0 tg0 false) 39))
  rw [← hW3, ← HQ2.out]
  clear hW3 k0
  go_upto_region 16 with (fail)
  obtain ⟨W4, hW4⟩ : ∃ X, X = (W3.setCell ⟨Q, 3, none⟩ (.slice A2 n2 c2)) := ⟨_, rfl⟩
  have hs4 : W4.heap[Q]? = some (.cells (fsc 8 0 (.slice none 0 0) (.slice A2 n2 c2) false 0 tg0 false) 39 (0, 0)) := by rw [hW4]; exact (set_obj (i := 3) HQ3.out _)
  have hz4 : W4.heap[R]? = some (.cells (fsc 0 0 (.slice none 0 0) (.slice none 0 0) false 0 tg0 false) 39 (0, 0)) := by rw [hW4]; exact (set_obj_other HZ3.out HRQ.out.2.2 _)
  have HG4 : Hid (Gr w W4) := Lib.hid (by rw [hW4]; exact (HG3.out.setCell HRQ.out.2.1 _))
  rw [← hW4]
  clear hW4 k3 v3 q3 f3
  go_wp2_with (first | (refine wpList_load_row rfl 39 (.tmp 3) rfl Q rfl 39 (fsc 8 0 (.slice none 0 0) (.slice A2 n2 c2) false 0 tg0 false) (0, 0) _ hs4 Tryz.underlying39 rfl sinfo ?_) | (refine wpList_store_row rfl 39 (.tmp 2) (.tmp 49) rfl R (fsc 8 0 (.slice none 0 0) (.slice A2 n2 c2) false 0 tg0 false) rfl rfl 39 _ hz4 sinfo rfl (fsc_ones _ _ _ _ _ _ _ _ _ _ _ _) ?_))
  have hzf := setRow_heap W4 R _ (fsc 8 0 (.slice none 0 0) (.slice A2 n2 c2) false 0 tg0 false) 39 _ hz4
  have HZF := Lib.hid hzf
  have hgr := below_setRow HG4.out HRQ.out.1 (fsc 8 0 (.slice none 0 0) (.slice A2 n2 c2) false 0 tg0 false)
  clear hzf
  go_wp2_with fail
  exact bodyPost_ret (results_cell_row Tryz.results46 _ _ R 39 (fsc 8 0 (.slice none 0 0) (.slice A2 n2 c2) false 0 tg0 false) (0, 0) _ rfl HZF.out Tryz.underlying39 rfl sinfo) rfl ⟨rfl, hgr⟩
end Go.Proofs.YtlihcjlonafohaaGreat
