/- States of a key in memory; walk: Begin. Written by wip/tools/genfoh.py. -/
import Derived.Test.YtlihcjlonafohaaGreatZf23
import Derived.Laws.Tables
import Derived.Laws.CopyOwn
namespace Go.Proofs.YtlihcjlonafohaaGreat
open Go.RowKit Go.Joins
set_option linter.unusedSimpArgs false
set_option linter.unusedVariables false

def tg0 : TG := ⟨0, 0, 0, ⟨#[]⟩⟩
/-- A state. -/
structure FS where
  k : Int
  n : Int
  ever : List ByteArray
  live : List TG
  has : Bool
  st : Nat
  top : TG
  df : Bool
/-- The cells of a state whose lists are these slices. -/
abbrev fsc (k n : Int) (ve vl : Value) (has : Bool) (st : Nat) (top : TG) (df : Bool) : Array Value := #[.int .i64 k, .int .i64 n, ve, vl, .bool has, .int .u64 (st : Int), .int .i64 top.o, .int .i64 top.i, .int .u64 (top.s : Int), .string top.e, .bool df]
/-- The state is the call's own. -/
def FV (w : World) (B : Nat) (v : Value) (s : FS) : Prop := ∃ ve vl, v = .agg (fsc s.k s.n ve vl s.has s.st s.top s.df) ∧ SO w B ve s.ever ∧ GOw w B vl s.live
theorem FV.gr {w w' : World} {B : Nat} {v : Value} {s : FS} (h : FV w B v s) (g : Gr w w') : FV w' B v s := by
  obtain ⟨ve, vl, h1, h2, h3⟩ := h
  exact ⟨ve, vl, h1, h2.gr g, h3.gr g⟩
theorem FV.le {w : World} {B B' : Nat} {v : Value} {s : FS} (h : FV w B v s) (hb : B' ≤ B) : FV w B' v s := by
  obtain ⟨ve, vl, h1, h2, h3⟩ := h
  exact ⟨ve, vl, h1, h2.le hb, h3.le hb⟩
/-- The beginning of a kind. -/
def beginS (k start : Int) : FS := ⟨k, if k = 1 ∨ k = 2 then start else 0, [], [], false, 0, tg0, if k = 7 then !decide (start = 0) else false⟩
theorem fsc_ones (k n : Int) (A A' : Option Addr) (a c a' c' : Nat) (has : Bool) (st : Nat) (top : TG) (df : Bool) : (fsc k n (.slice A a c) (.slice A' a' c') has st top df).all (·.oneCell') = true := by
  rw [Array.all_eq_true_iff_forall_mem]
  intro v hv
  rw [Array.mem_def] at hv
  simp only [List.mem_cons, List.not_mem_nil, or_false] at hv
  rcases hv with rfl | rfl | rfl | rfl | rfl | rfl | rfl | rfl | rfl | rfl | rfl <;> rfl
theorem sinfo : (Tryz.prog.info? 39).map (·.size) = some 11 := by kernel_rfl
set_option maxRecDepth 100000 in
set_option maxHeartbeats 4000000 in
theorem begin3_any (start : Int) (w : World) :
    Calls Tryz.prog 13 #[.int .i64 3, .int .i64 start] w fun e w' => e = .returned (.tuple #[.agg (fsc 3 (0) (.slice none 0 0) (.slice none 0 0) false 0 tg0 false), .int .i64 0]) ∧ Gr w w' := by
  obtain ⟨W, hW, hg, hz⟩ : ∃ W, W = w.alloc (.cells (fsc 0 (0) (.slice none 0 0) (.slice none 0 0) false 0 tg0 false) 39) ∧ Gr w W ∧ W.heap[w.heap.size]? = some (.cells (fsc 0 (0) (.slice none 0 0) (.slice none 0 0) false 0 tg0 false) 39 (0, 0)) := ⟨_, rfl, (Gr.refl _).alloc _, heap_alloc _ _ _⟩
  obtain ⟨R, hR⟩ : ∃ R, R = w.heap.size := ⟨_, rfl⟩
  rw [← hR] at hz
  have HG := Lib.hid hg
  have HRW : Hid (w.heap.size ≤ R) := Lib.hid (by rw [hR]; exact Nat.le_refl _)
  go_enter Tryz.func13, Tryz.ntmps13
  go_upto_region 1 with (fail)
  change Code.wp Tryz.prog _ _ _ (w.alloc (.cells (fsc 0 (0) (.slice none 0 0) (.slice none 0 0) false 0 tg0 false) 39))
  rw [← hW, ← hR]
  clear hW hR hg
  go_wp2_with fail
  refine (known_any 3 W).mono ?_
  rintro e w2 ⟨rfl, hw2⟩
  subst hw2
  rw [show knownB 3 = true from rfl]
  obtain ⟨W3, hW3, hg3, hs⟩ : ∃ X, X = w2.alloc (.cells (fsc 3 (0) (.slice none 0 0) (.slice none 0 0) false 0 tg0 false) 39) ∧ Gr w2 X ∧ X.heap[w2.heap.size]? = some (.cells (fsc 3 (0) (.slice none 0 0) (.slice none 0 0) false 0 tg0 false) 39 (0, 0)) := ⟨_, rfl, (Gr.refl _).alloc _, heap_alloc _ _ _⟩
  obtain ⟨P, hP⟩ : ∃ R, R = w2.heap.size := ⟨_, rfl⟩
  have HPW : Hid (w.heap.size ≤ P) := Lib.hid (by rw [hP]; exact HG.out.size)
  have hRP : R ≠ P := by have := (Array.getElem?_eq_some_iff.1 hz).1; omega
  rw [← hP] at hs
  have hz3 := gr_obj hg3 hz
  have HG3 := Lib.hid (HG.out.trans hg3)
  clear hz hg3
  go_upto_region 4 with (fail)
  change Code.wp Tryz.prog _ _ _ (w2.alloc (.cells (fsc 3 (0) (.slice none 0 0) (.slice none 0 0) false 0 tg0 false) 39))
  rw [← hW3, ← hP]
  clear hW3 hP
  go_wp2_with (first | (refine wpList_load_row rfl 39 (.tmp 6) rfl P rfl 39 (fsc 3 (0) (.slice none 0 0) (.slice none 0 0) false 0 tg0 false) (0, 0) _ hs Tryz.underlying39 rfl sinfo ?_) | (refine wpList_store_row rfl 39 (.tmp 4) (.tmp 24) rfl R (fsc 3 (0) (.slice none 0 0) (.slice none 0 0) false 0 tg0 false) rfl rfl 39 _ hz3 sinfo rfl (fsc_ones _ _ _ _ _ _ _ _ _ _ _ _) ?_))
  have hzf := setRow_heap W3 R _ (fsc 3 (0) (.slice none 0 0) (.slice none 0 0) false 0 tg0 false) 39 _ hz3
  have hl := run_loadVar_row (P := Tryz.prog) (World.setRow W3 R (fsc 3 (0) (.slice none 0 0) (.slice none 0 0) false 0 tg0 false)) R 39 39 (fsc 3 (0) (.slice none 0 0) (.slice none 0 0) false 0 tg0 false) (0, 0) _ hzf Tryz.underlying39 rfl sinfo
  have hgr := below_setRow HG3.out HRW.out (fsc 3 (0) (.slice none 0 0) (.slice none 0 0) false 0 tg0 false)
  clear hzf
  go_wp2_with fail
  refine bodyPost_ret (v := .tuple #[.agg (fsc 3 (0) (.slice none 0 0) (.slice none 0 0) false 0 tg0 false), .int .i64 0]) (by simp [results, Tryz.results13, asAddr, hl]) rfl ⟨rfl, hgr⟩
set_option maxRecDepth 100000 in
set_option maxHeartbeats 4000000 in
theorem begin4_any (start : Int) (w : World) :
    Calls Tryz.prog 13 #[.int .i64 4, .int .i64 start] w fun e w' => e = .returned (.tuple #[.agg (fsc 4 (0) (.slice none 0 0) (.slice none 0 0) false 0 tg0 false), .int .i64 0]) ∧ Gr w w' := by
  obtain ⟨W, hW, hg, hz⟩ : ∃ W, W = w.alloc (.cells (fsc 0 (0) (.slice none 0 0) (.slice none 0 0) false 0 tg0 false) 39) ∧ Gr w W ∧ W.heap[w.heap.size]? = some (.cells (fsc 0 (0) (.slice none 0 0) (.slice none 0 0) false 0 tg0 false) 39 (0, 0)) := ⟨_, rfl, (Gr.refl _).alloc _, heap_alloc _ _ _⟩
  obtain ⟨R, hR⟩ : ∃ R, R = w.heap.size := ⟨_, rfl⟩
  rw [← hR] at hz
  have HG := Lib.hid hg
  have HRW : Hid (w.heap.size ≤ R) := Lib.hid (by rw [hR]; exact Nat.le_refl _)
  go_enter Tryz.func13, Tryz.ntmps13
  go_upto_region 1 with (fail)
  change Code.wp Tryz.prog _ _ _ (w.alloc (.cells (fsc 0 (0) (.slice none 0 0) (.slice none 0 0) false 0 tg0 false) 39))
  rw [← hW, ← hR]
  clear hW hR hg
  go_wp2_with fail
  refine (known_any 4 W).mono ?_
  rintro e w2 ⟨rfl, hw2⟩
  subst hw2
  rw [show knownB 4 = true from rfl]
  obtain ⟨W3, hW3, hg3, hs⟩ : ∃ X, X = w2.alloc (.cells (fsc 4 (0) (.slice none 0 0) (.slice none 0 0) false 0 tg0 false) 39) ∧ Gr w2 X ∧ X.heap[w2.heap.size]? = some (.cells (fsc 4 (0) (.slice none 0 0) (.slice none 0 0) false 0 tg0 false) 39 (0, 0)) := ⟨_, rfl, (Gr.refl _).alloc _, heap_alloc _ _ _⟩
  obtain ⟨P, hP⟩ : ∃ R, R = w2.heap.size := ⟨_, rfl⟩
  have HPW : Hid (w.heap.size ≤ P) := Lib.hid (by rw [hP]; exact HG.out.size)
  have hRP : R ≠ P := by have := (Array.getElem?_eq_some_iff.1 hz).1; omega
  rw [← hP] at hs
  have hz3 := gr_obj hg3 hz
  have HG3 := Lib.hid (HG.out.trans hg3)
  clear hz hg3
  go_upto_region 4 with (fail)
  change Code.wp Tryz.prog _ _ _ (w2.alloc (.cells (fsc 4 (0) (.slice none 0 0) (.slice none 0 0) false 0 tg0 false) 39))
  rw [← hW3, ← hP]
  clear hW3 hP
  go_wp2_with (first | (refine wpList_load_row rfl 39 (.tmp 6) rfl P rfl 39 (fsc 4 (0) (.slice none 0 0) (.slice none 0 0) false 0 tg0 false) (0, 0) _ hs Tryz.underlying39 rfl sinfo ?_) | (refine wpList_store_row rfl 39 (.tmp 4) (.tmp 24) rfl R (fsc 4 (0) (.slice none 0 0) (.slice none 0 0) false 0 tg0 false) rfl rfl 39 _ hz3 sinfo rfl (fsc_ones _ _ _ _ _ _ _ _ _ _ _ _) ?_))
  have hzf := setRow_heap W3 R _ (fsc 4 (0) (.slice none 0 0) (.slice none 0 0) false 0 tg0 false) 39 _ hz3
  have hl := run_loadVar_row (P := Tryz.prog) (World.setRow W3 R (fsc 4 (0) (.slice none 0 0) (.slice none 0 0) false 0 tg0 false)) R 39 39 (fsc 4 (0) (.slice none 0 0) (.slice none 0 0) false 0 tg0 false) (0, 0) _ hzf Tryz.underlying39 rfl sinfo
  have hgr := below_setRow HG3.out HRW.out (fsc 4 (0) (.slice none 0 0) (.slice none 0 0) false 0 tg0 false)
  clear hzf
  go_wp2_with fail
  refine bodyPost_ret (v := .tuple #[.agg (fsc 4 (0) (.slice none 0 0) (.slice none 0 0) false 0 tg0 false), .int .i64 0]) (by simp [results, Tryz.results13, asAddr, hl]) rfl ⟨rfl, hgr⟩
set_option maxRecDepth 100000 in
set_option maxHeartbeats 4000000 in
theorem begin5_any (start : Int) (w : World) :
    Calls Tryz.prog 13 #[.int .i64 5, .int .i64 start] w fun e w' => e = .returned (.tuple #[.agg (fsc 5 (0) (.slice none 0 0) (.slice none 0 0) false 0 tg0 false), .int .i64 0]) ∧ Gr w w' := by
  obtain ⟨W, hW, hg, hz⟩ : ∃ W, W = w.alloc (.cells (fsc 0 (0) (.slice none 0 0) (.slice none 0 0) false 0 tg0 false) 39) ∧ Gr w W ∧ W.heap[w.heap.size]? = some (.cells (fsc 0 (0) (.slice none 0 0) (.slice none 0 0) false 0 tg0 false) 39 (0, 0)) := ⟨_, rfl, (Gr.refl _).alloc _, heap_alloc _ _ _⟩
  obtain ⟨R, hR⟩ : ∃ R, R = w.heap.size := ⟨_, rfl⟩
  rw [← hR] at hz
  have HG := Lib.hid hg
  have HRW : Hid (w.heap.size ≤ R) := Lib.hid (by rw [hR]; exact Nat.le_refl _)
  go_enter Tryz.func13, Tryz.ntmps13
  go_upto_region 1 with (fail)
  change Code.wp Tryz.prog _ _ _ (w.alloc (.cells (fsc 0 (0) (.slice none 0 0) (.slice none 0 0) false 0 tg0 false) 39))
  rw [← hW, ← hR]
  clear hW hR hg
  go_wp2_with fail
  refine (known_any 5 W).mono ?_
  rintro e w2 ⟨rfl, hw2⟩
  subst hw2
  rw [show knownB 5 = true from rfl]
  obtain ⟨W3, hW3, hg3, hs⟩ : ∃ X, X = w2.alloc (.cells (fsc 5 (0) (.slice none 0 0) (.slice none 0 0) false 0 tg0 false) 39) ∧ Gr w2 X ∧ X.heap[w2.heap.size]? = some (.cells (fsc 5 (0) (.slice none 0 0) (.slice none 0 0) false 0 tg0 false) 39 (0, 0)) := ⟨_, rfl, (Gr.refl _).alloc _, heap_alloc _ _ _⟩
  obtain ⟨P, hP⟩ : ∃ R, R = w2.heap.size := ⟨_, rfl⟩
  have HPW : Hid (w.heap.size ≤ P) := Lib.hid (by rw [hP]; exact HG.out.size)
  have hRP : R ≠ P := by have := (Array.getElem?_eq_some_iff.1 hz).1; omega
  rw [← hP] at hs
  have hz3 := gr_obj hg3 hz
  have HG3 := Lib.hid (HG.out.trans hg3)
  clear hz hg3
  go_upto_region 4 with (fail)
  change Code.wp Tryz.prog _ _ _ (w2.alloc (.cells (fsc 5 (0) (.slice none 0 0) (.slice none 0 0) false 0 tg0 false) 39))
  rw [← hW3, ← hP]
  clear hW3 hP
  go_wp2_with (first | (refine wpList_load_row rfl 39 (.tmp 6) rfl P rfl 39 (fsc 5 (0) (.slice none 0 0) (.slice none 0 0) false 0 tg0 false) (0, 0) _ hs Tryz.underlying39 rfl sinfo ?_) | (refine wpList_store_row rfl 39 (.tmp 4) (.tmp 24) rfl R (fsc 5 (0) (.slice none 0 0) (.slice none 0 0) false 0 tg0 false) rfl rfl 39 _ hz3 sinfo rfl (fsc_ones _ _ _ _ _ _ _ _ _ _ _ _) ?_))
  have hzf := setRow_heap W3 R _ (fsc 5 (0) (.slice none 0 0) (.slice none 0 0) false 0 tg0 false) 39 _ hz3
  have hl := run_loadVar_row (P := Tryz.prog) (World.setRow W3 R (fsc 5 (0) (.slice none 0 0) (.slice none 0 0) false 0 tg0 false)) R 39 39 (fsc 5 (0) (.slice none 0 0) (.slice none 0 0) false 0 tg0 false) (0, 0) _ hzf Tryz.underlying39 rfl sinfo
  have hgr := below_setRow HG3.out HRW.out (fsc 5 (0) (.slice none 0 0) (.slice none 0 0) false 0 tg0 false)
  clear hzf
  go_wp2_with fail
  refine bodyPost_ret (v := .tuple #[.agg (fsc 5 (0) (.slice none 0 0) (.slice none 0 0) false 0 tg0 false), .int .i64 0]) (by simp [results, Tryz.results13, asAddr, hl]) rfl ⟨rfl, hgr⟩
set_option maxRecDepth 100000 in
set_option maxHeartbeats 4000000 in
theorem begin6_any (start : Int) (w : World) :
    Calls Tryz.prog 13 #[.int .i64 6, .int .i64 start] w fun e w' => e = .returned (.tuple #[.agg (fsc 6 (0) (.slice none 0 0) (.slice none 0 0) false 0 tg0 false), .int .i64 0]) ∧ Gr w w' := by
  obtain ⟨W, hW, hg, hz⟩ : ∃ W, W = w.alloc (.cells (fsc 0 (0) (.slice none 0 0) (.slice none 0 0) false 0 tg0 false) 39) ∧ Gr w W ∧ W.heap[w.heap.size]? = some (.cells (fsc 0 (0) (.slice none 0 0) (.slice none 0 0) false 0 tg0 false) 39 (0, 0)) := ⟨_, rfl, (Gr.refl _).alloc _, heap_alloc _ _ _⟩
  obtain ⟨R, hR⟩ : ∃ R, R = w.heap.size := ⟨_, rfl⟩
  rw [← hR] at hz
  have HG := Lib.hid hg
  have HRW : Hid (w.heap.size ≤ R) := Lib.hid (by rw [hR]; exact Nat.le_refl _)
  go_enter Tryz.func13, Tryz.ntmps13
  go_upto_region 1 with (fail)
  change Code.wp Tryz.prog _ _ _ (w.alloc (.cells (fsc 0 (0) (.slice none 0 0) (.slice none 0 0) false 0 tg0 false) 39))
  rw [← hW, ← hR]
  clear hW hR hg
  go_wp2_with fail
  refine (known_any 6 W).mono ?_
  rintro e w2 ⟨rfl, hw2⟩
  subst hw2
  rw [show knownB 6 = true from rfl]
  obtain ⟨W3, hW3, hg3, hs⟩ : ∃ X, X = w2.alloc (.cells (fsc 6 (0) (.slice none 0 0) (.slice none 0 0) false 0 tg0 false) 39) ∧ Gr w2 X ∧ X.heap[w2.heap.size]? = some (.cells (fsc 6 (0) (.slice none 0 0) (.slice none 0 0) false 0 tg0 false) 39 (0, 0)) := ⟨_, rfl, (Gr.refl _).alloc _, heap_alloc _ _ _⟩
  obtain ⟨P, hP⟩ : ∃ R, R = w2.heap.size := ⟨_, rfl⟩
  have HPW : Hid (w.heap.size ≤ P) := Lib.hid (by rw [hP]; exact HG.out.size)
  have hRP : R ≠ P := by have := (Array.getElem?_eq_some_iff.1 hz).1; omega
  rw [← hP] at hs
  have hz3 := gr_obj hg3 hz
  have HG3 := Lib.hid (HG.out.trans hg3)
  clear hz hg3
  go_upto_region 4 with (fail)
  change Code.wp Tryz.prog _ _ _ (w2.alloc (.cells (fsc 6 (0) (.slice none 0 0) (.slice none 0 0) false 0 tg0 false) 39))
  rw [← hW3, ← hP]
  clear hW3 hP
  go_wp2_with (first | (refine wpList_load_row rfl 39 (.tmp 6) rfl P rfl 39 (fsc 6 (0) (.slice none 0 0) (.slice none 0 0) false 0 tg0 false) (0, 0) _ hs Tryz.underlying39 rfl sinfo ?_) | (refine wpList_store_row rfl 39 (.tmp 4) (.tmp 24) rfl R (fsc 6 (0) (.slice none 0 0) (.slice none 0 0) false 0 tg0 false) rfl rfl 39 _ hz3 sinfo rfl (fsc_ones _ _ _ _ _ _ _ _ _ _ _ _) ?_))
  have hzf := setRow_heap W3 R _ (fsc 6 (0) (.slice none 0 0) (.slice none 0 0) false 0 tg0 false) 39 _ hz3
  have hl := run_loadVar_row (P := Tryz.prog) (World.setRow W3 R (fsc 6 (0) (.slice none 0 0) (.slice none 0 0) false 0 tg0 false)) R 39 39 (fsc 6 (0) (.slice none 0 0) (.slice none 0 0) false 0 tg0 false) (0, 0) _ hzf Tryz.underlying39 rfl sinfo
  have hgr := below_setRow HG3.out HRW.out (fsc 6 (0) (.slice none 0 0) (.slice none 0 0) false 0 tg0 false)
  clear hzf
  go_wp2_with fail
  refine bodyPost_ret (v := .tuple #[.agg (fsc 6 (0) (.slice none 0 0) (.slice none 0 0) false 0 tg0 false), .int .i64 0]) (by simp [results, Tryz.results13, asAddr, hl]) rfl ⟨rfl, hgr⟩
set_option maxRecDepth 100000 in
set_option maxHeartbeats 4000000 in
theorem begin8_any (start : Int) (w : World) :
    Calls Tryz.prog 13 #[.int .i64 8, .int .i64 start] w fun e w' => e = .returned (.tuple #[.agg (fsc 8 (0) (.slice none 0 0) (.slice none 0 0) false 0 tg0 false), .int .i64 0]) ∧ Gr w w' := by
  obtain ⟨W, hW, hg, hz⟩ : ∃ W, W = w.alloc (.cells (fsc 0 (0) (.slice none 0 0) (.slice none 0 0) false 0 tg0 false) 39) ∧ Gr w W ∧ W.heap[w.heap.size]? = some (.cells (fsc 0 (0) (.slice none 0 0) (.slice none 0 0) false 0 tg0 false) 39 (0, 0)) := ⟨_, rfl, (Gr.refl _).alloc _, heap_alloc _ _ _⟩
  obtain ⟨R, hR⟩ : ∃ R, R = w.heap.size := ⟨_, rfl⟩
  rw [← hR] at hz
  have HG := Lib.hid hg
  have HRW : Hid (w.heap.size ≤ R) := Lib.hid (by rw [hR]; exact Nat.le_refl _)
  go_enter Tryz.func13, Tryz.ntmps13
  go_upto_region 1 with (fail)
  change Code.wp Tryz.prog _ _ _ (w.alloc (.cells (fsc 0 (0) (.slice none 0 0) (.slice none 0 0) false 0 tg0 false) 39))
  rw [← hW, ← hR]
  clear hW hR hg
  go_wp2_with fail
  refine (known_any 8 W).mono ?_
  rintro e w2 ⟨rfl, hw2⟩
  subst hw2
  rw [show knownB 8 = true from rfl]
  obtain ⟨W3, hW3, hg3, hs⟩ : ∃ X, X = w2.alloc (.cells (fsc 8 (0) (.slice none 0 0) (.slice none 0 0) false 0 tg0 false) 39) ∧ Gr w2 X ∧ X.heap[w2.heap.size]? = some (.cells (fsc 8 (0) (.slice none 0 0) (.slice none 0 0) false 0 tg0 false) 39 (0, 0)) := ⟨_, rfl, (Gr.refl _).alloc _, heap_alloc _ _ _⟩
  obtain ⟨P, hP⟩ : ∃ R, R = w2.heap.size := ⟨_, rfl⟩
  have HPW : Hid (w.heap.size ≤ P) := Lib.hid (by rw [hP]; exact HG.out.size)
  have hRP : R ≠ P := by have := (Array.getElem?_eq_some_iff.1 hz).1; omega
  rw [← hP] at hs
  have hz3 := gr_obj hg3 hz
  have HG3 := Lib.hid (HG.out.trans hg3)
  clear hz hg3
  go_upto_region 4 with (fail)
  change Code.wp Tryz.prog _ _ _ (w2.alloc (.cells (fsc 8 (0) (.slice none 0 0) (.slice none 0 0) false 0 tg0 false) 39))
  rw [← hW3, ← hP]
  clear hW3 hP
  go_wp2_with (first | (refine wpList_load_row rfl 39 (.tmp 6) rfl P rfl 39 (fsc 8 (0) (.slice none 0 0) (.slice none 0 0) false 0 tg0 false) (0, 0) _ hs Tryz.underlying39 rfl sinfo ?_) | (refine wpList_store_row rfl 39 (.tmp 4) (.tmp 24) rfl R (fsc 8 (0) (.slice none 0 0) (.slice none 0 0) false 0 tg0 false) rfl rfl 39 _ hz3 sinfo rfl (fsc_ones _ _ _ _ _ _ _ _ _ _ _ _) ?_))
  have hzf := setRow_heap W3 R _ (fsc 8 (0) (.slice none 0 0) (.slice none 0 0) false 0 tg0 false) 39 _ hz3
  have hl := run_loadVar_row (P := Tryz.prog) (World.setRow W3 R (fsc 8 (0) (.slice none 0 0) (.slice none 0 0) false 0 tg0 false)) R 39 39 (fsc 8 (0) (.slice none 0 0) (.slice none 0 0) false 0 tg0 false) (0, 0) _ hzf Tryz.underlying39 rfl sinfo
  have hgr := below_setRow HG3.out HRW.out (fsc 8 (0) (.slice none 0 0) (.slice none 0 0) false 0 tg0 false)
  clear hzf
  go_wp2_with fail
  refine bodyPost_ret (v := .tuple #[.agg (fsc 8 (0) (.slice none 0 0) (.slice none 0 0) false 0 tg0 false), .int .i64 0]) (by simp [results, Tryz.results13, asAddr, hl]) rfl ⟨rfl, hgr⟩
set_option maxRecDepth 100000 in
set_option maxHeartbeats 4000000 in
theorem begin1_any (start : Int) (w : World) :
    Calls Tryz.prog 13 #[.int .i64 1, .int .i64 start] w fun e w' => e = .returned (.tuple #[.agg (fsc 1 (start) (.slice none 0 0) (.slice none 0 0) false 0 tg0 false), .int .i64 0]) ∧ Gr w w' := by
  obtain ⟨W, hW, hg, hz⟩ : ∃ W, W = w.alloc (.cells (fsc 0 (0) (.slice none 0 0) (.slice none 0 0) false 0 tg0 false) 39) ∧ Gr w W ∧ W.heap[w.heap.size]? = some (.cells (fsc 0 (0) (.slice none 0 0) (.slice none 0 0) false 0 tg0 false) 39 (0, 0)) := ⟨_, rfl, (Gr.refl _).alloc _, heap_alloc _ _ _⟩
  obtain ⟨R, hR⟩ : ∃ R, R = w.heap.size := ⟨_, rfl⟩
  rw [← hR] at hz
  have HG := Lib.hid hg
  have HRW : Hid (w.heap.size ≤ R) := Lib.hid (by rw [hR]; exact Nat.le_refl _)
  go_enter Tryz.func13, Tryz.ntmps13
  go_upto_region 1 with (fail)
  change Code.wp Tryz.prog _ _ _ (w.alloc (.cells (fsc 0 (0) (.slice none 0 0) (.slice none 0 0) false 0 tg0 false) 39))
  rw [← hW, ← hR]
  clear hW hR hg
  go_wp2_with fail
  refine (known_any 1 W).mono ?_
  rintro e w2 ⟨rfl, hw2⟩
  subst hw2
  rw [show knownB 1 = true from rfl]
  obtain ⟨W3, hW3, hg3, hs⟩ : ∃ X, X = w2.alloc (.cells (fsc 1 (0) (.slice none 0 0) (.slice none 0 0) false 0 tg0 false) 39) ∧ Gr w2 X ∧ X.heap[w2.heap.size]? = some (.cells (fsc 1 (0) (.slice none 0 0) (.slice none 0 0) false 0 tg0 false) 39 (0, 0)) := ⟨_, rfl, (Gr.refl _).alloc _, heap_alloc _ _ _⟩
  obtain ⟨P, hP⟩ : ∃ R, R = w2.heap.size := ⟨_, rfl⟩
  have HPW : Hid (w.heap.size ≤ P) := Lib.hid (by rw [hP]; exact HG.out.size)
  have hRP : R ≠ P := by have := (Array.getElem?_eq_some_iff.1 hz).1; omega
  rw [← hP] at hs
  have hz3 := gr_obj hg3 hz
  have HG3 := Lib.hid (HG.out.trans hg3)
  clear hz hg3
  go_upto_region 4 with (fail)
  change Code.wp Tryz.prog _ _ _ (w2.alloc (.cells (fsc 1 (0) (.slice none 0 0) (.slice none 0 0) false 0 tg0 false) 39))
  rw [← hW3, ← hP]
  clear hW3 hP
  have p0 := cell_of_block hs 1
  have pf0 := unfrozen_of_block hs 1
  have p0 : W3.cell? ⟨P, 1, none⟩ = some (.int .i64 0) := p0
  go_upto_region 10 with (fail)
  obtain ⟨W4, hW4⟩ : ∃ X, X = W3.setCell ⟨P, 1, none⟩ (.int .i64 start) := ⟨_, rfl⟩
  have hs4 : W4.heap[P]? = some (.cells (fsc 1 (start) (.slice none 0 0) (.slice none 0 0) false 0 tg0 false) 39 (0, 0)) := by rw [hW4]; exact set_obj hs _
  have hz4 : W4.heap[R]? = some (.cells (fsc 0 (0) (.slice none 0 0) (.slice none 0 0) false 0 tg0 false) 39 (0, 0)) := by rw [hW4]; exact set_obj_other hz3 hRP _
  have HG4 : Hid (Gr w W4) := Lib.hid (by rw [hW4]; exact HG3.out.setCell HPW.out _)
  rw [← hW4]
  clear hW4 p0 pf0 hs hz3
  go_wp2_with (first | (refine wpList_load_row rfl 39 (.tmp 6) rfl P rfl 39 (fsc 1 (start) (.slice none 0 0) (.slice none 0 0) false 0 tg0 false) (0, 0) _ hs4 Tryz.underlying39 rfl sinfo ?_) | (refine wpList_store_row rfl 39 (.tmp 4) (.tmp 24) rfl R (fsc 1 (start) (.slice none 0 0) (.slice none 0 0) false 0 tg0 false) rfl rfl 39 _ hz4 sinfo rfl (fsc_ones _ _ _ _ _ _ _ _ _ _ _ _) ?_))
  have hzf := setRow_heap W4 R _ (fsc 1 (start) (.slice none 0 0) (.slice none 0 0) false 0 tg0 false) 39 _ hz4
  have hl := run_loadVar_row (P := Tryz.prog) (World.setRow W4 R (fsc 1 (start) (.slice none 0 0) (.slice none 0 0) false 0 tg0 false)) R 39 39 (fsc 1 (start) (.slice none 0 0) (.slice none 0 0) false 0 tg0 false) (0, 0) _ hzf Tryz.underlying39 rfl sinfo
  have hgr := below_setRow HG4.out HRW.out (fsc 1 (start) (.slice none 0 0) (.slice none 0 0) false 0 tg0 false)
  clear hzf
  go_wp2_with fail
  refine bodyPost_ret (v := .tuple #[.agg (fsc 1 (start) (.slice none 0 0) (.slice none 0 0) false 0 tg0 false), .int .i64 0]) (by simp [results, Tryz.results13, asAddr, hl]) rfl ⟨rfl, hgr⟩
set_option maxRecDepth 100000 in
set_option maxHeartbeats 4000000 in
theorem begin2_any (start : Int) (w : World) :
    Calls Tryz.prog 13 #[.int .i64 2, .int .i64 start] w fun e w' => e = .returned (.tuple #[.agg (fsc 2 (start) (.slice none 0 0) (.slice none 0 0) false 0 tg0 false), .int .i64 0]) ∧ Gr w w' := by
  obtain ⟨W, hW, hg, hz⟩ : ∃ W, W = w.alloc (.cells (fsc 0 (0) (.slice none 0 0) (.slice none 0 0) false 0 tg0 false) 39) ∧ Gr w W ∧ W.heap[w.heap.size]? = some (.cells (fsc 0 (0) (.slice none 0 0) (.slice none 0 0) false 0 tg0 false) 39 (0, 0)) := ⟨_, rfl, (Gr.refl _).alloc _, heap_alloc _ _ _⟩
  obtain ⟨R, hR⟩ : ∃ R, R = w.heap.size := ⟨_, rfl⟩
  rw [← hR] at hz
  have HG := Lib.hid hg
  have HRW : Hid (w.heap.size ≤ R) := Lib.hid (by rw [hR]; exact Nat.le_refl _)
  go_enter Tryz.func13, Tryz.ntmps13
  go_upto_region 1 with (fail)
  change Code.wp Tryz.prog _ _ _ (w.alloc (.cells (fsc 0 (0) (.slice none 0 0) (.slice none 0 0) false 0 tg0 false) 39))
  rw [← hW, ← hR]
  clear hW hR hg
  go_wp2_with fail
  refine (known_any 2 W).mono ?_
  rintro e w2 ⟨rfl, hw2⟩
  subst hw2
  rw [show knownB 2 = true from rfl]
  obtain ⟨W3, hW3, hg3, hs⟩ : ∃ X, X = w2.alloc (.cells (fsc 2 (0) (.slice none 0 0) (.slice none 0 0) false 0 tg0 false) 39) ∧ Gr w2 X ∧ X.heap[w2.heap.size]? = some (.cells (fsc 2 (0) (.slice none 0 0) (.slice none 0 0) false 0 tg0 false) 39 (0, 0)) := ⟨_, rfl, (Gr.refl _).alloc _, heap_alloc _ _ _⟩
  obtain ⟨P, hP⟩ : ∃ R, R = w2.heap.size := ⟨_, rfl⟩
  have HPW : Hid (w.heap.size ≤ P) := Lib.hid (by rw [hP]; exact HG.out.size)
  have hRP : R ≠ P := by have := (Array.getElem?_eq_some_iff.1 hz).1; omega
  rw [← hP] at hs
  have hz3 := gr_obj hg3 hz
  have HG3 := Lib.hid (HG.out.trans hg3)
  clear hz hg3
  go_upto_region 4 with (fail)
  change Code.wp Tryz.prog _ _ _ (w2.alloc (.cells (fsc 2 (0) (.slice none 0 0) (.slice none 0 0) false 0 tg0 false) 39))
  rw [← hW3, ← hP]
  clear hW3 hP
  have p0 := cell_of_block hs 1
  have pf0 := unfrozen_of_block hs 1
  have p0 : W3.cell? ⟨P, 1, none⟩ = some (.int .i64 0) := p0
  go_upto_region 10 with (fail)
  obtain ⟨W4, hW4⟩ : ∃ X, X = W3.setCell ⟨P, 1, none⟩ (.int .i64 start) := ⟨_, rfl⟩
  have hs4 : W4.heap[P]? = some (.cells (fsc 2 (start) (.slice none 0 0) (.slice none 0 0) false 0 tg0 false) 39 (0, 0)) := by rw [hW4]; exact set_obj hs _
  have hz4 : W4.heap[R]? = some (.cells (fsc 0 (0) (.slice none 0 0) (.slice none 0 0) false 0 tg0 false) 39 (0, 0)) := by rw [hW4]; exact set_obj_other hz3 hRP _
  have HG4 : Hid (Gr w W4) := Lib.hid (by rw [hW4]; exact HG3.out.setCell HPW.out _)
  rw [← hW4]
  clear hW4 p0 pf0 hs hz3
  go_wp2_with (first | (refine wpList_load_row rfl 39 (.tmp 6) rfl P rfl 39 (fsc 2 (start) (.slice none 0 0) (.slice none 0 0) false 0 tg0 false) (0, 0) _ hs4 Tryz.underlying39 rfl sinfo ?_) | (refine wpList_store_row rfl 39 (.tmp 4) (.tmp 24) rfl R (fsc 2 (start) (.slice none 0 0) (.slice none 0 0) false 0 tg0 false) rfl rfl 39 _ hz4 sinfo rfl (fsc_ones _ _ _ _ _ _ _ _ _ _ _ _) ?_))
  have hzf := setRow_heap W4 R _ (fsc 2 (start) (.slice none 0 0) (.slice none 0 0) false 0 tg0 false) 39 _ hz4
  have hl := run_loadVar_row (P := Tryz.prog) (World.setRow W4 R (fsc 2 (start) (.slice none 0 0) (.slice none 0 0) false 0 tg0 false)) R 39 39 (fsc 2 (start) (.slice none 0 0) (.slice none 0 0) false 0 tg0 false) (0, 0) _ hzf Tryz.underlying39 rfl sinfo
  have hgr := below_setRow HG4.out HRW.out (fsc 2 (start) (.slice none 0 0) (.slice none 0 0) false 0 tg0 false)
  clear hzf
  go_wp2_with fail
  refine bodyPost_ret (v := .tuple #[.agg (fsc 2 (start) (.slice none 0 0) (.slice none 0 0) false 0 tg0 false), .int .i64 0]) (by simp [results, Tryz.results13, asAddr, hl]) rfl ⟨rfl, hgr⟩
set_option maxRecDepth 100000 in
set_option maxHeartbeats 4000000 in
theorem begin7n_any (start : Int) (h0 : ¬ start = 0) (w : World) :
    Calls Tryz.prog 13 #[.int .i64 7, .int .i64 start] w fun e w' => e = .returned (.tuple #[.agg (fsc 7 (0) (.slice none 0 0) (.slice none 0 0) false 0 tg0 true), .int .i64 0]) ∧ Gr w w' := by
  obtain ⟨W, hW, hg, hz⟩ : ∃ W, W = w.alloc (.cells (fsc 0 (0) (.slice none 0 0) (.slice none 0 0) false 0 tg0 false) 39) ∧ Gr w W ∧ W.heap[w.heap.size]? = some (.cells (fsc 0 (0) (.slice none 0 0) (.slice none 0 0) false 0 tg0 false) 39 (0, 0)) := ⟨_, rfl, (Gr.refl _).alloc _, heap_alloc _ _ _⟩
  obtain ⟨R, hR⟩ : ∃ R, R = w.heap.size := ⟨_, rfl⟩
  rw [← hR] at hz
  have HG := Lib.hid hg
  have HRW : Hid (w.heap.size ≤ R) := Lib.hid (by rw [hR]; exact Nat.le_refl _)
  go_enter Tryz.func13, Tryz.ntmps13
  go_upto_region 1 with (fail)
  change Code.wp Tryz.prog _ _ _ (w.alloc (.cells (fsc 0 (0) (.slice none 0 0) (.slice none 0 0) false 0 tg0 false) 39))
  rw [← hW, ← hR]
  clear hW hR hg
  go_wp2_with fail
  refine (known_any 7 W).mono ?_
  rintro e w2 ⟨rfl, hw2⟩
  subst hw2
  rw [show knownB 7 = true from rfl]
  obtain ⟨W3, hW3, hg3, hs⟩ : ∃ X, X = w2.alloc (.cells (fsc 7 (0) (.slice none 0 0) (.slice none 0 0) false 0 tg0 false) 39) ∧ Gr w2 X ∧ X.heap[w2.heap.size]? = some (.cells (fsc 7 (0) (.slice none 0 0) (.slice none 0 0) false 0 tg0 false) 39 (0, 0)) := ⟨_, rfl, (Gr.refl _).alloc _, heap_alloc _ _ _⟩
  obtain ⟨P, hP⟩ : ∃ R, R = w2.heap.size := ⟨_, rfl⟩
  have HPW : Hid (w.heap.size ≤ P) := Lib.hid (by rw [hP]; exact HG.out.size)
  have hRP : R ≠ P := by have := (Array.getElem?_eq_some_iff.1 hz).1; omega
  rw [← hP] at hs
  have hz3 := gr_obj hg3 hz
  have HG3 := Lib.hid (HG.out.trans hg3)
  clear hz hg3
  go_upto_region 4 with (fail)
  change Code.wp Tryz.prog _ _ _ (w2.alloc (.cells (fsc 7 (0) (.slice none 0 0) (.slice none 0 0) false 0 tg0 false) 39))
  rw [← hW3, ← hP]
  clear hW3 hP
  have p0 := cell_of_block hs 10
  have pf0 := unfrozen_of_block hs 10
  have p0 : W3.cell? ⟨P, 10, none⟩ = some (.bool false) := p0
  go_upto_region 10 with (fail)
  rw [show (start != 0) = true from bne_iff_ne.2 h0]
  obtain ⟨W4, hW4⟩ : ∃ X, X = W3.setCell ⟨P, 10, none⟩ (.bool true) := ⟨_, rfl⟩
  have hs4 : W4.heap[P]? = some (.cells (fsc 7 (0) (.slice none 0 0) (.slice none 0 0) false 0 tg0 true) 39 (0, 0)) := by rw [hW4]; exact set_obj hs _
  have hz4 : W4.heap[R]? = some (.cells (fsc 0 (0) (.slice none 0 0) (.slice none 0 0) false 0 tg0 false) 39 (0, 0)) := by rw [hW4]; exact set_obj_other hz3 hRP _
  have HG4 : Hid (Gr w W4) := Lib.hid (by rw [hW4]; exact HG3.out.setCell HPW.out _)
  rw [← hW4]
  clear hW4 p0 pf0 hs hz3
  go_wp2_with (first | (refine wpList_load_row rfl 39 (.tmp 6) rfl P rfl 39 (fsc 7 (0) (.slice none 0 0) (.slice none 0 0) false 0 tg0 true) (0, 0) _ hs4 Tryz.underlying39 rfl sinfo ?_) | (refine wpList_store_row rfl 39 (.tmp 4) (.tmp 24) rfl R (fsc 7 (0) (.slice none 0 0) (.slice none 0 0) false 0 tg0 true) rfl rfl 39 _ hz4 sinfo rfl (fsc_ones _ _ _ _ _ _ _ _ _ _ _ _) ?_))
  have hzf := setRow_heap W4 R _ (fsc 7 (0) (.slice none 0 0) (.slice none 0 0) false 0 tg0 true) 39 _ hz4
  have hl := run_loadVar_row (P := Tryz.prog) (World.setRow W4 R (fsc 7 (0) (.slice none 0 0) (.slice none 0 0) false 0 tg0 true)) R 39 39 (fsc 7 (0) (.slice none 0 0) (.slice none 0 0) false 0 tg0 true) (0, 0) _ hzf Tryz.underlying39 rfl sinfo
  have hgr := below_setRow HG4.out HRW.out (fsc 7 (0) (.slice none 0 0) (.slice none 0 0) false 0 tg0 true)
  clear hzf
  go_wp2_with fail
  refine bodyPost_ret (v := .tuple #[.agg (fsc 7 (0) (.slice none 0 0) (.slice none 0 0) false 0 tg0 true), .int .i64 0]) (by simp [results, Tryz.results13, asAddr, hl]) rfl ⟨rfl, hgr⟩
set_option maxRecDepth 100000 in
set_option maxHeartbeats 4000000 in
theorem begin7z_any  (w : World) :
    Calls Tryz.prog 13 #[.int .i64 7, .int .i64 0] w fun e w' => e = .returned (.tuple #[.agg (fsc 7 (0) (.slice none 0 0) (.slice none 0 0) false 0 tg0 false), .int .i64 0]) ∧ Gr w w' := by
  obtain ⟨W, hW, hg, hz⟩ : ∃ W, W = w.alloc (.cells (fsc 0 (0) (.slice none 0 0) (.slice none 0 0) false 0 tg0 false) 39) ∧ Gr w W ∧ W.heap[w.heap.size]? = some (.cells (fsc 0 (0) (.slice none 0 0) (.slice none 0 0) false 0 tg0 false) 39 (0, 0)) := ⟨_, rfl, (Gr.refl _).alloc _, heap_alloc _ _ _⟩
  obtain ⟨R, hR⟩ : ∃ R, R = w.heap.size := ⟨_, rfl⟩
  rw [← hR] at hz
  have HG := Lib.hid hg
  have HRW : Hid (w.heap.size ≤ R) := Lib.hid (by rw [hR]; exact Nat.le_refl _)
  go_enter Tryz.func13, Tryz.ntmps13
  go_upto_region 1 with (fail)
  change Code.wp Tryz.prog _ _ _ (w.alloc (.cells (fsc 0 (0) (.slice none 0 0) (.slice none 0 0) false 0 tg0 false) 39))
  rw [← hW, ← hR]
  clear hW hR hg
  go_wp2_with fail
  refine (known_any 7 W).mono ?_
  rintro e w2 ⟨rfl, hw2⟩
  subst hw2
  rw [show knownB 7 = true from rfl]
  obtain ⟨W3, hW3, hg3, hs⟩ : ∃ X, X = w2.alloc (.cells (fsc 7 (0) (.slice none 0 0) (.slice none 0 0) false 0 tg0 false) 39) ∧ Gr w2 X ∧ X.heap[w2.heap.size]? = some (.cells (fsc 7 (0) (.slice none 0 0) (.slice none 0 0) false 0 tg0 false) 39 (0, 0)) := ⟨_, rfl, (Gr.refl _).alloc _, heap_alloc _ _ _⟩
  obtain ⟨P, hP⟩ : ∃ R, R = w2.heap.size := ⟨_, rfl⟩
  have HPW : Hid (w.heap.size ≤ P) := Lib.hid (by rw [hP]; exact HG.out.size)
  have hRP : R ≠ P := by have := (Array.getElem?_eq_some_iff.1 hz).1; omega
  rw [← hP] at hs
  have hz3 := gr_obj hg3 hz
  have HG3 := Lib.hid (HG.out.trans hg3)
  clear hz hg3
  go_upto_region 4 with (fail)
  change Code.wp Tryz.prog _ _ _ (w2.alloc (.cells (fsc 7 (0) (.slice none 0 0) (.slice none 0 0) false 0 tg0 false) 39))
  rw [← hW3, ← hP]
  clear hW3 hP
  have p0 := cell_of_block hs 10
  have pf0 := unfrozen_of_block hs 10
  have p0 : W3.cell? ⟨P, 10, none⟩ = some (.bool false) := p0
  go_upto_region 10 with (fail)
  obtain ⟨W4, hW4⟩ : ∃ X, X = W3.setCell ⟨P, 10, none⟩ (.bool false) := ⟨_, rfl⟩
  have hs4 : W4.heap[P]? = some (.cells (fsc 7 (0) (.slice none 0 0) (.slice none 0 0) false 0 tg0 false) 39 (0, 0)) := by rw [hW4]; exact set_obj hs _
  have hz4 : W4.heap[R]? = some (.cells (fsc 0 (0) (.slice none 0 0) (.slice none 0 0) false 0 tg0 false) 39 (0, 0)) := by rw [hW4]; exact set_obj_other hz3 hRP _
  have HG4 : Hid (Gr w W4) := Lib.hid (by rw [hW4]; exact HG3.out.setCell HPW.out _)
  rw [← hW4]
  clear hW4 p0 pf0 hs hz3
  go_wp2_with (first | (refine wpList_load_row rfl 39 (.tmp 6) rfl P rfl 39 (fsc 7 (0) (.slice none 0 0) (.slice none 0 0) false 0 tg0 false) (0, 0) _ hs4 Tryz.underlying39 rfl sinfo ?_) | (refine wpList_store_row rfl 39 (.tmp 4) (.tmp 24) rfl R (fsc 7 (0) (.slice none 0 0) (.slice none 0 0) false 0 tg0 false) rfl rfl 39 _ hz4 sinfo rfl (fsc_ones _ _ _ _ _ _ _ _ _ _ _ _) ?_))
  have hzf := setRow_heap W4 R _ (fsc 7 (0) (.slice none 0 0) (.slice none 0 0) false 0 tg0 false) 39 _ hz4
  have hl := run_loadVar_row (P := Tryz.prog) (World.setRow W4 R (fsc 7 (0) (.slice none 0 0) (.slice none 0 0) false 0 tg0 false)) R 39 39 (fsc 7 (0) (.slice none 0 0) (.slice none 0 0) false 0 tg0 false) (0, 0) _ hzf Tryz.underlying39 rfl sinfo
  have hgr := below_setRow HG4.out HRW.out (fsc 7 (0) (.slice none 0 0) (.slice none 0 0) false 0 tg0 false)
  clear hzf
  go_wp2_with fail
  refine bodyPost_ret (v := .tuple #[.agg (fsc 7 (0) (.slice none 0 0) (.slice none 0 0) false 0 tg0 false), .int .i64 0]) (by simp [results, Tryz.results13, asAddr, hl]) rfl ⟨rfl, hgr⟩
theorem begin_any (k start : Int) (hk : knownB k = true) (B : Nat) (w : World) :
    Calls Tryz.prog 13 #[.int .i64 k, .int .i64 start] w fun e w' => ∃ v, e = .returned (.tuple #[v, .int .i64 0]) ∧ FV w' B v (beginS k start) ∧ Gr w w' := by
  have mk : ∀ n df, beginS k start = ⟨k, n, [], [], false, 0, tg0, df⟩ → Calls Tryz.prog 13 #[.int .i64 k, .int .i64 start] w (fun e w' => e = .returned (.tuple #[.agg (fsc k n (.slice none 0 0) (.slice none 0 0) false 0 tg0 df), .int .i64 0]) ∧ Gr w w') → Calls Tryz.prog 13 #[.int .i64 k, .int .i64 start] w fun e w' => ∃ v, e = .returned (.tuple #[v, .int .i64 0]) ∧ FV w' B v (beginS k start) ∧ Gr w w' := fun n df he h => h.mono fun e w' ⟨h1, h2⟩ => ⟨_, h1, by rw [he]; exact ⟨_, _, rfl, SO.nil _ _, GOw.nil _ _⟩, h2⟩
  unfold knownB at hk
  rw [Bool.and_eq_true, decide_eq_true_eq, decide_eq_true_eq] at hk
  obtain rfl | rfl | rfl | rfl | rfl | rfl | rfl | rfl : k = 1 ∨ k = 2 ∨ k = 3 ∨ k = 4 ∨ k = 5 ∨ k = 6 ∨ k = 7 ∨ k = 8 := by omega
  · exact mk start false rfl (begin1_any start w)
  · exact mk start false rfl (begin2_any start w)
  · exact mk 0 false rfl (begin3_any start w)
  · exact mk 0 false rfl (begin4_any start w)
  · exact mk 0 false rfl (begin5_any start w)
  · exact mk 0 false rfl (begin6_any start w)
  · by_cases h0 : start = 0
    · subst h0
      exact mk 0 false rfl (begin7z_any w)
    · exact mk 0 true (by unfold beginS; simp [h0]) (begin7n_any start h0 w)
  · exact mk 0 false rfl (begin8_any start w)
end Go.Proofs.YtlihcjlonafohaaGreat
