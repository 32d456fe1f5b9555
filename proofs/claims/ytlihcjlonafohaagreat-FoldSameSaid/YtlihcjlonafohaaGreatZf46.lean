/- Walk: Value of fold. Written by wip/tools/genfor.py. -/
import Derived.Test.YtlihcjlonafohaaGreatZf35
import Derived.Test.YtlihcjlonafohaaGreatZf16
namespace Go.Proofs.YtlihcjlonafohaaGreat
open Go.RowKit Go.Joins
set_option linter.unusedSimpArgs false
set_option linter.unusedVariables false

theorem FitR.ofM {m : Nat} {s : FS} (h : FitM m s) (hm : m ≤ 1000000) : FitR s := ⟨Nat.le_trans h.live hm, Nat.le_trans h.ever hm, h.sz, h.tz, h.top⟩
/-- What a state's value is. -/
def fvalS (s : FS) : VR :=
  if s.k = 1 ∨ s.k = 2 then ⟨s.n, [], false⟩
  else if s.k = 3 ∨ s.k = 8 ∨ s.k = 6 then ⟨0, riseT (elemsG s.live), false⟩
  else if s.k = 4 then ⟨0, firmS s.ever s.live, false⟩
  else if s.k = 5 then ⟨0, lastS1 s.has s.top, false⟩
  else ⟨0, [], s.df || decide (0 < s.live.length)⟩
theorem vinfo3 : (Tryz.prog.info? 49).map (·.size) = some 3 := by kernel_rfl
abbrev vcs (n : Int) (v : Value) (on : Bool) : Array Value := #[.int .i64 n, v, .bool on]
theorem vcs_ones (n : Int) (A : Option Addr) (m c : Nat) (on : Bool) : (vcs n (.slice A m c) on).all (·.oneCell') = true := by
  rw [Array.all_eq_true_iff_forall_mem]
  intro v hv
  rw [Array.mem_def] at hv
  simp only [List.mem_cons, List.not_mem_nil, or_false] at hv
  rcases hv with rfl | rfl | rfl <;> rfl
def RetFV (r : VR) (k : Nat) (w : World) (e : Ending) (w' : World) : Prop := ∃ ve, e = .returned (.tuple #[.agg #[.int .i64 r.n, ve, .bool r.on], .int .i64 (k : Int)]) ∧ SO w' w.heap.size ve r.e ∧ Gr w w'
theorem so_row {w : World} {R B : Nat} {z : Array Value} {ve : Value} {E : List ByteArray} (out : Array Value) (hz : w.heap[R]? = some (.cells z 49 (0, 0))) (he : SO w B ve E) : SO (w.setRow R out) B ve E :=
  World.ownsRow.kept he (kp_setRow w R out) (.inr (own_ne_obj he hz (by decide)))
set_option maxRecDepth 100000 in
set_option maxHeartbeats 4000000 in
theorem fvalue1_any (m : Int) (A1 A2 : Option Addr) (n1 c1 n2 c2 : Nat) (E : List ByteArray) (L : List TG) (has : Bool) (st : Nat) (top : TG) (df : Bool) (w : World) (he : SV w (.slice A1 n1 c1) E) (hl : GV w (.slice A2 n2 c2) L) (hft : FitR ⟨1, m, E, L, has, st, top, df⟩) :
    Calls Tryz.prog 16 #[.agg (fsc 1 m (.slice A1 n1 c1) (.slice A2 n2 c2) has st top df)] w fun e w' => RetFV ⟨m, [], false⟩ 0 w e w' := by
  obtain ⟨W1, hW1, hg1, hs1⟩ : ∃ W, W = w.alloc (.cells (fsc 1 m (.slice A1 n1 c1) (.slice A2 n2 c2) has st top df) 39) ∧ Gr w W ∧ W.heap[w.heap.size]? = some (.cells (fsc 1 m (.slice A1 n1 c1) (.slice A2 n2 c2) has st top df) 39 (0, 0)) := ⟨_, rfl, (Gr.refl _).alloc _, heap_alloc _ _ _⟩
  obtain ⟨W, hW, hg2, hz⟩ : ∃ W, W = W1.alloc (.cells (vcs 0 (.slice none 0 0) false) 49) ∧ Gr W1 W ∧ W.heap[W1.heap.size]? = some (.cells (vcs 0 (.slice none 0 0) false) 49 (0, 0)) := ⟨_, rfl, (Gr.refl _).alloc _, heap_alloc _ _ _⟩
  have e1 : W1.heap.size = w.heap.size + 1 := by rw [hW1]; simp
  obtain ⟨S, hS⟩ : ∃ S, S = w.heap.size := ⟨_, rfl⟩
  obtain ⟨R, hR⟩ : ∃ S, S = w.heap.size + 1 := ⟨_, rfl⟩
  rw [← hS] at hs1
  rw [e1, ← hR] at hz
  have hs := gr_obj hg2 hs1
  have hgw : Gr w W := hg1.trans hg2
  have HRW : Hid (w.heap.size ≤ R) := Lib.hid (by omega)
  have HS := Lib.hid hs
  have HZ := Lib.hid hz
  have HG := Lib.hid hgw
  have HFT := Lib.hid hft
  have HEV := Lib.hid (he.gr hgw)
  have HLV := Lib.hid (hl.gr hgw)
  have k0 : W.cell? ⟨S, 0, none⟩ = some (.int .i64 1) := by rw [cell_of_block hs]; rfl
  rw [hW1] at hW
  clear hg1 hg2 hs1 e1 hW1 hgw he hl hft
  have p1 : W.cell? ⟨S, 1, none⟩ = some (.int .i64 m) := by rw [cell_of_block hs]; rfl
  clear hs hz
  go_enter Tryz.func16, Tryz.ntmps16
  go_upto_region 1 with (fail)
  change Code.wp Tryz.prog _ _ _ ((w.alloc (.cells (fsc 1 m (.slice A1 n1 c1) (.slice A2 n2 c2) has st top df) 39)).alloc (.cells (vcs 0 (.slice none 0 0) false) 49))
  rw [← hW, ← hR, ← hS]
  clear hW hR hS
  have hz4 := HZ.out
  have HEW := Lib.hid (SO.nil W w.heap.size)
  have HGW := Lib.hid (HG.out)
  go_wp2_with (refine wpList_store_row rfl 49 (.tmp 2) (.tmp 11) rfl R (vcs m (.slice none 0 0) false) rfl rfl 49 _ hz4 vinfo3 rfl (vcs_ones _ _ _ _ _) ?_)
  have hld := run_loadVar_row (P := Tryz.prog) (World.setRow W R (vcs m (.slice none 0 0) false)) R 49 49 (vcs m (.slice none 0 0) false) (0, 0) _ (setRow_heap W R _ (vcs m (.slice none 0 0) false) 49 _ hz4) Tryz.underlying49 rfl vinfo3
  have HO := Lib.hid (And.intro (so_row (vcs m (.slice none 0 0) false) hz4 HEW.out) (below_setRow HGW.out HRW.out (vcs m (.slice none 0 0) false)))
  clear hz4
  go_wp2_with fail
  exact bodyPost_ret (v := .tuple #[.agg (vcs m (.slice none 0 0) false), .int .i64 0]) (by simp [results, Tryz.results16, asAddr, hld]) rfl ⟨_, rfl, HO.out.1, HO.out.2⟩
set_option maxRecDepth 100000 in
set_option maxHeartbeats 4000000 in
theorem fvalue2_any (m : Int) (A1 A2 : Option Addr) (n1 c1 n2 c2 : Nat) (E : List ByteArray) (L : List TG) (has : Bool) (st : Nat) (top : TG) (df : Bool) (w : World) (he : SV w (.slice A1 n1 c1) E) (hl : GV w (.slice A2 n2 c2) L) (hft : FitR ⟨2, m, E, L, has, st, top, df⟩) :
    Calls Tryz.prog 16 #[.agg (fsc 2 m (.slice A1 n1 c1) (.slice A2 n2 c2) has st top df)] w fun e w' => RetFV ⟨m, [], false⟩ 0 w e w' := by
  obtain ⟨W1, hW1, hg1, hs1⟩ : ∃ W, W = w.alloc (.cells (fsc 2 m (.slice A1 n1 c1) (.slice A2 n2 c2) has st top df) 39) ∧ Gr w W ∧ W.heap[w.heap.size]? = some (.cells (fsc 2 m (.slice A1 n1 c1) (.slice A2 n2 c2) has st top df) 39 (0, 0)) := ⟨_, rfl, (Gr.refl _).alloc _, heap_alloc _ _ _⟩
  obtain ⟨W, hW, hg2, hz⟩ : ∃ W, W = W1.alloc (.cells (vcs 0 (.slice none 0 0) false) 49) ∧ Gr W1 W ∧ W.heap[W1.heap.size]? = some (.cells (vcs 0 (.slice none 0 0) false) 49 (0, 0)) := ⟨_, rfl, (Gr.refl _).alloc _, heap_alloc _ _ _⟩
  have e1 : W1.heap.size = w.heap.size + 1 := by rw [hW1]; simp
  obtain ⟨S, hS⟩ : ∃ S, S = w.heap.size := ⟨_, rfl⟩
  obtain ⟨R, hR⟩ : ∃ S, S = w.heap.size + 1 := ⟨_, rfl⟩
  rw [← hS] at hs1
  rw [e1, ← hR] at hz
  have hs := gr_obj hg2 hs1
  have hgw : Gr w W := hg1.trans hg2
  have HRW : Hid (w.heap.size ≤ R) := Lib.hid (by omega)
  have HS := Lib.hid hs
  have HZ := Lib.hid hz
  have HG := Lib.hid hgw
  have HFT := Lib.hid hft
  have HEV := Lib.hid (he.gr hgw)
  have HLV := Lib.hid (hl.gr hgw)
  have k0 : W.cell? ⟨S, 0, none⟩ = some (.int .i64 2) := by rw [cell_of_block hs]; rfl
  rw [hW1] at hW
  clear hg1 hg2 hs1 e1 hW1 hgw he hl hft
  have p1 : W.cell? ⟨S, 1, none⟩ = some (.int .i64 m) := by rw [cell_of_block hs]; rfl
  clear hs hz
  go_enter Tryz.func16, Tryz.ntmps16
  go_upto_region 1 with (fail)
  change Code.wp Tryz.prog _ _ _ ((w.alloc (.cells (fsc 2 m (.slice A1 n1 c1) (.slice A2 n2 c2) has st top df) 39)).alloc (.cells (vcs 0 (.slice none 0 0) false) 49))
  rw [← hW, ← hR, ← hS]
  clear hW hR hS
  have hz4 := HZ.out
  have HEW := Lib.hid (SO.nil W w.heap.size)
  have HGW := Lib.hid (HG.out)
  go_wp2_with (refine wpList_store_row rfl 49 (.tmp 2) (.tmp 11) rfl R (vcs m (.slice none 0 0) false) rfl rfl 49 _ hz4 vinfo3 rfl (vcs_ones _ _ _ _ _) ?_)
  have hld := run_loadVar_row (P := Tryz.prog) (World.setRow W R (vcs m (.slice none 0 0) false)) R 49 49 (vcs m (.slice none 0 0) false) (0, 0) _ (setRow_heap W R _ (vcs m (.slice none 0 0) false) 49 _ hz4) Tryz.underlying49 rfl vinfo3
  have HO := Lib.hid (And.intro (so_row (vcs m (.slice none 0 0) false) hz4 HEW.out) (below_setRow HGW.out HRW.out (vcs m (.slice none 0 0) false)))
  clear hz4
  go_wp2_with fail
  exact bodyPost_ret (v := .tuple #[.agg (vcs m (.slice none 0 0) false), .int .i64 0]) (by simp [results, Tryz.results16, asAddr, hld]) rfl ⟨_, rfl, HO.out.1, HO.out.2⟩
set_option maxRecDepth 100000 in
set_option maxHeartbeats 4000000 in
theorem fvalue3_any (m : Int) (A1 A2 : Option Addr) (n1 c1 n2 c2 : Nat) (E : List ByteArray) (L : List TG) (has : Bool) (st : Nat) (top : TG) (df : Bool) (w : World) (he : SV w (.slice A1 n1 c1) E) (hl : GV w (.slice A2 n2 c2) L) (hft : FitR ⟨3, m, E, L, has, st, top, df⟩) :
    Calls Tryz.prog 16 #[.agg (fsc 3 m (.slice A1 n1 c1) (.slice A2 n2 c2) has st top df)] w fun e w' => RetFV ⟨0, riseT (elemsG L), false⟩ 0 w e w' := by
  obtain ⟨W1, hW1, hg1, hs1⟩ : ∃ W, W = w.alloc (.cells (fsc 3 m (.slice A1 n1 c1) (.slice A2 n2 c2) has st top df) 39) ∧ Gr w W ∧ W.heap[w.heap.size]? = some (.cells (fsc 3 m (.slice A1 n1 c1) (.slice A2 n2 c2) has st top df) 39 (0, 0)) := ⟨_, rfl, (Gr.refl _).alloc _, heap_alloc _ _ _⟩
  obtain ⟨W, hW, hg2, hz⟩ : ∃ W, W = W1.alloc (.cells (vcs 0 (.slice none 0 0) false) 49) ∧ Gr W1 W ∧ W.heap[W1.heap.size]? = some (.cells (vcs 0 (.slice none 0 0) false) 49 (0, 0)) := ⟨_, rfl, (Gr.refl _).alloc _, heap_alloc _ _ _⟩
  have e1 : W1.heap.size = w.heap.size + 1 := by rw [hW1]; simp
  obtain ⟨S, hS⟩ : ∃ S, S = w.heap.size := ⟨_, rfl⟩
  obtain ⟨R, hR⟩ : ∃ S, S = w.heap.size + 1 := ⟨_, rfl⟩
  rw [← hS] at hs1
  rw [e1, ← hR] at hz
  have hs := gr_obj hg2 hs1
  have hgw : Gr w W := hg1.trans hg2
  have HRW : Hid (w.heap.size ≤ R) := Lib.hid (by omega)
  have HS := Lib.hid hs
  have HZ := Lib.hid hz
  have HG := Lib.hid hgw
  have HFT := Lib.hid hft
  have HEV := Lib.hid (he.gr hgw)
  have HLV := Lib.hid (hl.gr hgw)
  have k0 : W.cell? ⟨S, 0, none⟩ = some (.int .i64 3) := by rw [cell_of_block hs]; rfl
  rw [hW1] at hW
  clear hg1 hg2 hs1 e1 hW1 hgw he hl hft
  have p3 : W.cell? ⟨S, 3, none⟩ = some (.slice A2 n2 c2) := by rw [cell_of_block hs]; rfl
  have HEL := Lib.hid (elemsF_any _ L W HLV.out HFT.out.live)
  clear hs hz
  go_enter Tryz.func16, Tryz.ntmps16
  go_upto_region 1 with (fail)
  change Code.wp Tryz.prog _ _ _ ((w.alloc (.cells (fsc 3 m (.slice A1 n1 c1) (.slice A2 n2 c2) has st top df) 39)).alloc (.cells (vcs 0 (.slice none 0 0) false) 49))
  rw [← hW, ← hR, ← hS]
  clear hW hR hS
  go_wp2_with fail
  refine HEL.out.mono ?_
  rintro e w2 ⟨s1, rfl, ho1, g1⟩
  have HR1 := Lib.hid (risingF_any s1 _ w2 ho1.sv (by rw [elemsG_len]; exact HFT.out.live) (fun x hx => by
    obtain ⟨t, ht, rfl⟩ := List.mem_map.1 hx
    exact HFT.out.tz t ht))
  obtain ⟨A3, c3, hs3, -, -⟩ := own_form ho1
  subst hs3
  obtain ⟨m1, hm1⟩ : ∃ m, m = (elemsG L).length := ⟨_, rfl⟩
  rw [← hm1] at HR1 ⊢
  have HG2 := Lib.hid g1
  clear ho1 g1 hm1 p3
  go_wp2_with fail
  refine HR1.out.mono ?_
  rintro e w3 ⟨s2, rfl, ho2, g2⟩
  have HO2 := Lib.hid ho2
  obtain ⟨A4, c4, hs4, -, -⟩ := own_form ho2
  subst hs4
  obtain ⟨m2, hm2⟩ : ∃ m, m = (riseT (elemsG L)).length := ⟨_, rfl⟩
  rw [← hm2] at HO2 ⊢
  have HG3 := Lib.hid (HG2.out.trans g2)
  clear ho2 g2 hm2 k0
  have hz4 := gr_obj HG3.out HZ.out
  have HEW := Lib.hid (HO2.out.le (HG.out.trans HG2.out).size)
  have HGW := Lib.hid (HG.out.trans HG3.out)
  go_wp2_with (refine wpList_store_row rfl 49 (.tmp 2) (.tmp 20) rfl R (vcs 0 (.slice A4 m2 c4) false) rfl rfl 49 _ hz4 vinfo3 rfl (vcs_ones _ _ _ _ _) ?_)
  have hld := run_loadVar_row (P := Tryz.prog) (World.setRow w3 R (vcs 0 (.slice A4 m2 c4) false)) R 49 49 (vcs 0 (.slice A4 m2 c4) false) (0, 0) _ (setRow_heap w3 R _ (vcs 0 (.slice A4 m2 c4) false) 49 _ hz4) Tryz.underlying49 rfl vinfo3
  have HO := Lib.hid (And.intro (so_row (vcs 0 (.slice A4 m2 c4) false) hz4 HEW.out) (below_setRow HGW.out HRW.out (vcs 0 (.slice A4 m2 c4) false)))
  clear hz4
  go_wp2_with fail
  exact bodyPost_ret (v := .tuple #[.agg (vcs 0 (.slice A4 m2 c4) false), .int .i64 0]) (by simp [results, Tryz.results16, asAddr, hld]) rfl ⟨_, rfl, HO.out.1, HO.out.2⟩
set_option maxRecDepth 100000 in
set_option maxHeartbeats 4000000 in
theorem fvalue8_any (m : Int) (A1 A2 : Option Addr) (n1 c1 n2 c2 : Nat) (E : List ByteArray) (L : List TG) (has : Bool) (st : Nat) (top : TG) (df : Bool) (w : World) (he : SV w (.slice A1 n1 c1) E) (hl : GV w (.slice A2 n2 c2) L) (hft : FitR ⟨8, m, E, L, has, st, top, df⟩) :
    Calls Tryz.prog 16 #[.agg (fsc 8 m (.slice A1 n1 c1) (.slice A2 n2 c2) has st top df)] w fun e w' => RetFV ⟨0, riseT (elemsG L), false⟩ 0 w e w' := by
  obtain ⟨W1, hW1, hg1, hs1⟩ : ∃ W, W = w.alloc (.cells (fsc 8 m (.slice A1 n1 c1) (.slice A2 n2 c2) has st top df) 39) ∧ Gr w W ∧ W.heap[w.heap.size]? = some (.cells (fsc 8 m (.slice A1 n1 c1) (.slice A2 n2 c2) has st top df) 39 (0, 0)) := ⟨_, rfl, (Gr.refl _).alloc _, heap_alloc _ _ _⟩
  obtain ⟨W, hW, hg2, hz⟩ : ∃ W, W = W1.alloc (.cells (vcs 0 (.slice none 0 0) false) 49) ∧ Gr W1 W ∧ W.heap[W1.heap.size]? = some (.cells (vcs 0 (.slice none 0 0) false) 49 (0, 0)) := ⟨_, rfl, (Gr.refl _).alloc _, heap_alloc _ _ _⟩
  have e1 : W1.heap.size = w.heap.size + 1 := by rw [hW1]; simp
  obtain ⟨S, hS⟩ : ∃ S, S = w.heap.size := ⟨_, rfl⟩
  obtain ⟨R, hR⟩ : ∃ S, S = w.heap.size + 1 := ⟨_, rfl⟩
  rw [← hS] at hs1
  rw [e1, ← hR] at hz
  have hs := gr_obj hg2 hs1
  have hgw : Gr w W := hg1.trans hg2
  have HRW : Hid (w.heap.size ≤ R) := Lib.hid (by omega)
  have HS := Lib.hid hs
  have HZ := Lib.hid hz
  have HG := Lib.hid hgw
  have HFT := Lib.hid hft
  have HEV := Lib.hid (he.gr hgw)
  have HLV := Lib.hid (hl.gr hgw)
  have k0 : W.cell? ⟨S, 0, none⟩ = some (.int .i64 8) := by rw [cell_of_block hs]; rfl
  rw [hW1] at hW
  clear hg1 hg2 hs1 e1 hW1 hgw he hl hft
  have p3 : W.cell? ⟨S, 3, none⟩ = some (.slice A2 n2 c2) := by rw [cell_of_block hs]; rfl
  have HEL := Lib.hid (elemsF_any _ L W HLV.out HFT.out.live)
  clear hs hz
  go_enter Tryz.func16, Tryz.ntmps16
  go_upto_region 1 with (fail)
  change Code.wp Tryz.prog _ _ _ ((w.alloc (.cells (fsc 8 m (.slice A1 n1 c1) (.slice A2 n2 c2) has st top df) 39)).alloc (.cells (vcs 0 (.slice none 0 0) false) 49))
  rw [← hW, ← hR, ← hS]
  clear hW hR hS
  go_wp2_with fail
  refine HEL.out.mono ?_
  rintro e w2 ⟨s1, rfl, ho1, g1⟩
  have HR1 := Lib.hid (risingF_any s1 _ w2 ho1.sv (by rw [elemsG_len]; exact HFT.out.live) (fun x hx => by
    obtain ⟨t, ht, rfl⟩ := List.mem_map.1 hx
    exact HFT.out.tz t ht))
  obtain ⟨A3, c3, hs3, -, -⟩ := own_form ho1
  subst hs3
  obtain ⟨m1, hm1⟩ : ∃ m, m = (elemsG L).length := ⟨_, rfl⟩
  rw [← hm1] at HR1 ⊢
  have HG2 := Lib.hid g1
  clear ho1 g1 hm1 p3
  go_wp2_with fail
  refine HR1.out.mono ?_
  rintro e w3 ⟨s2, rfl, ho2, g2⟩
  have HO2 := Lib.hid ho2
  obtain ⟨A4, c4, hs4, -, -⟩ := own_form ho2
  subst hs4
  obtain ⟨m2, hm2⟩ : ∃ m, m = (riseT (elemsG L)).length := ⟨_, rfl⟩
  rw [← hm2] at HO2 ⊢
  have HG3 := Lib.hid (HG2.out.trans g2)
  clear ho2 g2 hm2 k0
  have hz4 := gr_obj HG3.out HZ.out
  have HEW := Lib.hid (HO2.out.le (HG.out.trans HG2.out).size)
  have HGW := Lib.hid (HG.out.trans HG3.out)
  go_wp2_with (refine wpList_store_row rfl 49 (.tmp 2) (.tmp 20) rfl R (vcs 0 (.slice A4 m2 c4) false) rfl rfl 49 _ hz4 vinfo3 rfl (vcs_ones _ _ _ _ _) ?_)
  have hld := run_loadVar_row (P := Tryz.prog) (World.setRow w3 R (vcs 0 (.slice A4 m2 c4) false)) R 49 49 (vcs 0 (.slice A4 m2 c4) false) (0, 0) _ (setRow_heap w3 R _ (vcs 0 (.slice A4 m2 c4) false) 49 _ hz4) Tryz.underlying49 rfl vinfo3
  have HO := Lib.hid (And.intro (so_row (vcs 0 (.slice A4 m2 c4) false) hz4 HEW.out) (below_setRow HGW.out HRW.out (vcs 0 (.slice A4 m2 c4) false)))
  clear hz4
  go_wp2_with fail
  exact bodyPost_ret (v := .tuple #[.agg (vcs 0 (.slice A4 m2 c4) false), .int .i64 0]) (by simp [results, Tryz.results16, asAddr, hld]) rfl ⟨_, rfl, HO.out.1, HO.out.2⟩
set_option maxRecDepth 100000 in
set_option maxHeartbeats 4000000 in
theorem fvalue6_any (m : Int) (A1 A2 : Option Addr) (n1 c1 n2 c2 : Nat) (E : List ByteArray) (L : List TG) (has : Bool) (st : Nat) (top : TG) (df : Bool) (w : World) (he : SV w (.slice A1 n1 c1) E) (hl : GV w (.slice A2 n2 c2) L) (hft : FitR ⟨6, m, E, L, has, st, top, df⟩) :
    Calls Tryz.prog 16 #[.agg (fsc 6 m (.slice A1 n1 c1) (.slice A2 n2 c2) has st top df)] w fun e w' => RetFV ⟨0, riseT (elemsG L), false⟩ 0 w e w' := by
  obtain ⟨W1, hW1, hg1, hs1⟩ : ∃ W, W = w.alloc (.cells (fsc 6 m (.slice A1 n1 c1) (.slice A2 n2 c2) has st top df) 39) ∧ Gr w W ∧ W.heap[w.heap.size]? = some (.cells (fsc 6 m (.slice A1 n1 c1) (.slice A2 n2 c2) has st top df) 39 (0, 0)) := ⟨_, rfl, (Gr.refl _).alloc _, heap_alloc _ _ _⟩
  obtain ⟨W, hW, hg2, hz⟩ : ∃ W, W = W1.alloc (.cells (vcs 0 (.slice none 0 0) false) 49) ∧ Gr W1 W ∧ W.heap[W1.heap.size]? = some (.cells (vcs 0 (.slice none 0 0) false) 49 (0, 0)) := ⟨_, rfl, (Gr.refl _).alloc _, heap_alloc _ _ _⟩
  have e1 : W1.heap.size = w.heap.size + 1 := by rw [hW1]; simp
  obtain ⟨S, hS⟩ : ∃ S, S = w.heap.size := ⟨_, rfl⟩
  obtain ⟨R, hR⟩ : ∃ S, S = w.heap.size + 1 := ⟨_, rfl⟩
  rw [← hS] at hs1
  rw [e1, ← hR] at hz
  have hs := gr_obj hg2 hs1
  have hgw : Gr w W := hg1.trans hg2
  have HRW : Hid (w.heap.size ≤ R) := Lib.hid (by omega)
  have HS := Lib.hid hs
  have HZ := Lib.hid hz
  have HG := Lib.hid hgw
  have HFT := Lib.hid hft
  have HEV := Lib.hid (he.gr hgw)
  have HLV := Lib.hid (hl.gr hgw)
  have k0 : W.cell? ⟨S, 0, none⟩ = some (.int .i64 6) := by rw [cell_of_block hs]; rfl
  rw [hW1] at hW
  clear hg1 hg2 hs1 e1 hW1 hgw he hl hft
  have p3 : W.cell? ⟨S, 3, none⟩ = some (.slice A2 n2 c2) := by rw [cell_of_block hs]; rfl
  have HEL := Lib.hid (elemsF_any _ L W HLV.out HFT.out.live)
  clear hs hz
  go_enter Tryz.func16, Tryz.ntmps16
  go_upto_region 1 with (fail)
  change Code.wp Tryz.prog _ _ _ ((w.alloc (.cells (fsc 6 m (.slice A1 n1 c1) (.slice A2 n2 c2) has st top df) 39)).alloc (.cells (vcs 0 (.slice none 0 0) false) 49))
  rw [← hW, ← hR, ← hS]
  clear hW hR hS
  go_wp2_with fail
  refine HEL.out.mono ?_
  rintro e w2 ⟨s1, rfl, ho1, g1⟩
  have HR1 := Lib.hid (risingF_any s1 _ w2 ho1.sv (by rw [elemsG_len]; exact HFT.out.live) (fun x hx => by
    obtain ⟨t, ht, rfl⟩ := List.mem_map.1 hx
    exact HFT.out.tz t ht))
  obtain ⟨A3, c3, hs3, -, -⟩ := own_form ho1
  subst hs3
  obtain ⟨m1, hm1⟩ : ∃ m, m = (elemsG L).length := ⟨_, rfl⟩
  rw [← hm1] at HR1 ⊢
  have HG2 := Lib.hid g1
  clear ho1 g1 hm1 p3
  go_wp2_with fail
  refine HR1.out.mono ?_
  rintro e w3 ⟨s2, rfl, ho2, g2⟩
  have HO2 := Lib.hid ho2
  obtain ⟨A4, c4, hs4, -, -⟩ := own_form ho2
  subst hs4
  obtain ⟨m2, hm2⟩ : ∃ m, m = (riseT (elemsG L)).length := ⟨_, rfl⟩
  rw [← hm2] at HO2 ⊢
  have HG3 := Lib.hid (HG2.out.trans g2)
  clear ho2 g2 hm2 k0
  have hz4 := gr_obj HG3.out HZ.out
  have HEW := Lib.hid (HO2.out.le (HG.out.trans HG2.out).size)
  have HGW := Lib.hid (HG.out.trans HG3.out)
  go_wp2_with (refine wpList_store_row rfl 49 (.tmp 2) (.tmp 20) rfl R (vcs 0 (.slice A4 m2 c4) false) rfl rfl 49 _ hz4 vinfo3 rfl (vcs_ones _ _ _ _ _) ?_)
  have hld := run_loadVar_row (P := Tryz.prog) (World.setRow w3 R (vcs 0 (.slice A4 m2 c4) false)) R 49 49 (vcs 0 (.slice A4 m2 c4) false) (0, 0) _ (setRow_heap w3 R _ (vcs 0 (.slice A4 m2 c4) false) 49 _ hz4) Tryz.underlying49 rfl vinfo3
  have HO := Lib.hid (And.intro (so_row (vcs 0 (.slice A4 m2 c4) false) hz4 HEW.out) (below_setRow HGW.out HRW.out (vcs 0 (.slice A4 m2 c4) false)))
  clear hz4
  go_wp2_with fail
  exact bodyPost_ret (v := .tuple #[.agg (vcs 0 (.slice A4 m2 c4) false), .int .i64 0]) (by simp [results, Tryz.results16, asAddr, hld]) rfl ⟨_, rfl, HO.out.1, HO.out.2⟩
set_option maxRecDepth 100000 in
set_option maxHeartbeats 4000000 in
theorem fvalue4_any (m : Int) (A1 A2 : Option Addr) (n1 c1 n2 c2 : Nat) (E : List ByteArray) (L : List TG) (has : Bool) (st : Nat) (top : TG) (df : Bool) (w : World) (he : SV w (.slice A1 n1 c1) E) (hl : GV w (.slice A2 n2 c2) L) (hft : FitR ⟨4, m, E, L, has, st, top, df⟩) :
    Calls Tryz.prog 16 #[.agg (fsc 4 m (.slice A1 n1 c1) (.slice A2 n2 c2) has st top df)] w fun e w' => RetFV ⟨0, firmS E L, false⟩ 0 w e w' := by
  obtain ⟨W1, hW1, hg1, hs1⟩ : ∃ W, W = w.alloc (.cells (fsc 4 m (.slice A1 n1 c1) (.slice A2 n2 c2) has st top df) 39) ∧ Gr w W ∧ W.heap[w.heap.size]? = some (.cells (fsc 4 m (.slice A1 n1 c1) (.slice A2 n2 c2) has st top df) 39 (0, 0)) := ⟨_, rfl, (Gr.refl _).alloc _, heap_alloc _ _ _⟩
  obtain ⟨W, hW, hg2, hz⟩ : ∃ W, W = W1.alloc (.cells (vcs 0 (.slice none 0 0) false) 49) ∧ Gr W1 W ∧ W.heap[W1.heap.size]? = some (.cells (vcs 0 (.slice none 0 0) false) 49 (0, 0)) := ⟨_, rfl, (Gr.refl _).alloc _, heap_alloc _ _ _⟩
  have e1 : W1.heap.size = w.heap.size + 1 := by rw [hW1]; simp
  obtain ⟨S, hS⟩ : ∃ S, S = w.heap.size := ⟨_, rfl⟩
  obtain ⟨R, hR⟩ : ∃ S, S = w.heap.size + 1 := ⟨_, rfl⟩
  rw [← hS] at hs1
  rw [e1, ← hR] at hz
  have hs := gr_obj hg2 hs1
  have hgw : Gr w W := hg1.trans hg2
  have HRW : Hid (w.heap.size ≤ R) := Lib.hid (by omega)
  have HS := Lib.hid hs
  have HZ := Lib.hid hz
  have HG := Lib.hid hgw
  have HFT := Lib.hid hft
  have HEV := Lib.hid (he.gr hgw)
  have HLV := Lib.hid (hl.gr hgw)
  have k0 : W.cell? ⟨S, 0, none⟩ = some (.int .i64 4) := by rw [cell_of_block hs]; rfl
  rw [hW1] at hW
  clear hg1 hg2 hs1 e1 hW1 hgw he hl hft
  have HFI := Lib.hid (firmF_any 4 m (.slice A1 n1 c1) (.slice A2 n2 c2) E L has st top df W HEV.out HLV.out HFT.out)
  clear hz
  go_enter Tryz.func16, Tryz.ntmps16
  go_upto_region 1 with (fail)
  change Code.wp Tryz.prog _ _ _ ((w.alloc (.cells (fsc 4 m (.slice A1 n1 c1) (.slice A2 n2 c2) has st top df) 39)).alloc (.cells (vcs 0 (.slice none 0 0) false) 49))
  rw [← hW, ← hR, ← hS]
  clear hW hR hS
  go_wp2_with (refine wpList_load_row rfl 39 (.tmp 1) rfl S rfl 39 (fsc 4 m (.slice A1 n1 c1) (.slice A2 n2 c2) has st top df) (0, 0) _ hs Tryz.underlying39 rfl sinfo ?_)
  refine HFI.out.mono ?_
  rintro e w3 ⟨s2, rfl, ho2, g2⟩
  have HO2 := Lib.hid ho2
  obtain ⟨A4, c4, hs4, -, -⟩ := own_form ho2
  subst hs4
  obtain ⟨m2, hm2⟩ : ∃ m, m = (firmS E L).length := ⟨_, rfl⟩
  rw [← hm2] at HO2 ⊢
  have HG3 := Lib.hid g2
  clear ho2 g2 hm2 k0 hs
  have hz4 := gr_obj HG3.out HZ.out
  have HEW := Lib.hid (HO2.out.le HG.out.size)
  have HGW := Lib.hid (HG.out.trans HG3.out)
  go_wp2_with (refine wpList_store_row rfl 49 (.tmp 2) (.tmp 25) rfl R (vcs 0 (.slice A4 m2 c4) false) rfl rfl 49 _ hz4 vinfo3 rfl (vcs_ones _ _ _ _ _) ?_)
  have hld := run_loadVar_row (P := Tryz.prog) (World.setRow w3 R (vcs 0 (.slice A4 m2 c4) false)) R 49 49 (vcs 0 (.slice A4 m2 c4) false) (0, 0) _ (setRow_heap w3 R _ (vcs 0 (.slice A4 m2 c4) false) 49 _ hz4) Tryz.underlying49 rfl vinfo3
  have HO := Lib.hid (And.intro (so_row (vcs 0 (.slice A4 m2 c4) false) hz4 HEW.out) (below_setRow HGW.out HRW.out (vcs 0 (.slice A4 m2 c4) false)))
  clear hz4
  go_wp2_with fail
  exact bodyPost_ret (v := .tuple #[.agg (vcs 0 (.slice A4 m2 c4) false), .int .i64 0]) (by simp [results, Tryz.results16, asAddr, hld]) rfl ⟨_, rfl, HO.out.1, HO.out.2⟩
set_option maxRecDepth 100000 in
set_option maxHeartbeats 4000000 in
theorem fvalue5_any (m : Int) (A1 A2 : Option Addr) (n1 c1 n2 c2 : Nat) (E : List ByteArray) (L : List TG) (has : Bool) (st : Nat) (top : TG) (df : Bool) (w : World) (he : SV w (.slice A1 n1 c1) E) (hl : GV w (.slice A2 n2 c2) L) (hft : FitR ⟨5, m, E, L, has, st, top, df⟩) :
    Calls Tryz.prog 16 #[.agg (fsc 5 m (.slice A1 n1 c1) (.slice A2 n2 c2) has st top df)] w fun e w' => RetFV ⟨0, lastS1 has top, false⟩ 0 w e w' := by
  obtain ⟨W1, hW1, hg1, hs1⟩ : ∃ W, W = w.alloc (.cells (fsc 5 m (.slice A1 n1 c1) (.slice A2 n2 c2) has st top df) 39) ∧ Gr w W ∧ W.heap[w.heap.size]? = some (.cells (fsc 5 m (.slice A1 n1 c1) (.slice A2 n2 c2) has st top df) 39 (0, 0)) := ⟨_, rfl, (Gr.refl _).alloc _, heap_alloc _ _ _⟩
  obtain ⟨W, hW, hg2, hz⟩ : ∃ W, W = W1.alloc (.cells (vcs 0 (.slice none 0 0) false) 49) ∧ Gr W1 W ∧ W.heap[W1.heap.size]? = some (.cells (vcs 0 (.slice none 0 0) false) 49 (0, 0)) := ⟨_, rfl, (Gr.refl _).alloc _, heap_alloc _ _ _⟩
  have e1 : W1.heap.size = w.heap.size + 1 := by rw [hW1]; simp
  obtain ⟨S, hS⟩ : ∃ S, S = w.heap.size := ⟨_, rfl⟩
  obtain ⟨R, hR⟩ : ∃ S, S = w.heap.size + 1 := ⟨_, rfl⟩
  rw [← hS] at hs1
  rw [e1, ← hR] at hz
  have hs := gr_obj hg2 hs1
  have hgw : Gr w W := hg1.trans hg2
  have HRW : Hid (w.heap.size ≤ R) := Lib.hid (by omega)
  have HS := Lib.hid hs
  have HZ := Lib.hid hz
  have HG := Lib.hid hgw
  have HFT := Lib.hid hft
  have HEV := Lib.hid (he.gr hgw)
  have HLV := Lib.hid (hl.gr hgw)
  have k0 : W.cell? ⟨S, 0, none⟩ = some (.int .i64 5) := by rw [cell_of_block hs]; rfl
  rw [hW1] at hW
  clear hg1 hg2 hs1 e1 hW1 hgw he hl hft
  have HFI := Lib.hid (lastF_any 5 m A1 A2 n1 c1 n2 c2 has st top df W HFT.out.top)
  clear hz
  go_enter Tryz.func16, Tryz.ntmps16
  go_upto_region 1 with (fail)
  change Code.wp Tryz.prog _ _ _ ((w.alloc (.cells (fsc 5 m (.slice A1 n1 c1) (.slice A2 n2 c2) has st top df) 39)).alloc (.cells (vcs 0 (.slice none 0 0) false) 49))
  rw [← hW, ← hR, ← hS]
  clear hW hR hS
  go_wp2_with (refine wpList_load_row rfl 39 (.tmp 1) rfl S rfl 39 (fsc 5 m (.slice A1 n1 c1) (.slice A2 n2 c2) has st top df) (0, 0) _ hs Tryz.underlying39 rfl sinfo ?_)
  refine HFI.out.mono ?_
  rintro e w3 ⟨s2, rfl, ho2, g2⟩
  have HO2 := Lib.hid ho2
  obtain ⟨A4, c4, hs4, -, -⟩ := own_form ho2
  subst hs4
  obtain ⟨m2, hm2⟩ : ∃ m, m = (lastS1 has top).length := ⟨_, rfl⟩
  rw [← hm2] at HO2 ⊢
  have HG3 := Lib.hid g2
  clear ho2 g2 hm2 k0 hs
  have hz4 := gr_obj HG3.out HZ.out
  have HEW := Lib.hid (HO2.out.le HG.out.size)
  have HGW := Lib.hid (HG.out.trans HG3.out)
  go_wp2_with (refine wpList_store_row rfl 49 (.tmp 2) (.tmp 30) rfl R (vcs 0 (.slice A4 m2 c4) false) rfl rfl 49 _ hz4 vinfo3 rfl (vcs_ones _ _ _ _ _) ?_)
  have hld := run_loadVar_row (P := Tryz.prog) (World.setRow w3 R (vcs 0 (.slice A4 m2 c4) false)) R 49 49 (vcs 0 (.slice A4 m2 c4) false) (0, 0) _ (setRow_heap w3 R _ (vcs 0 (.slice A4 m2 c4) false) 49 _ hz4) Tryz.underlying49 rfl vinfo3
  have HO := Lib.hid (And.intro (so_row (vcs 0 (.slice A4 m2 c4) false) hz4 HEW.out) (below_setRow HGW.out HRW.out (vcs 0 (.slice A4 m2 c4) false)))
  clear hz4
  go_wp2_with fail
  exact bodyPost_ret (v := .tuple #[.agg (vcs 0 (.slice A4 m2 c4) false), .int .i64 0]) (by simp [results, Tryz.results16, asAddr, hld]) rfl ⟨_, rfl, HO.out.1, HO.out.2⟩
set_option maxRecDepth 100000 in
set_option maxHeartbeats 4000000 in
theorem fvalue7d_any (m : Int) (A1 A2 : Option Addr) (n1 c1 n2 c2 : Nat) (E : List ByteArray) (L : List TG) (has : Bool) (st : Nat) (top : TG) (w : World) (he : SV w (.slice A1 n1 c1) E) (hl : GV w (.slice A2 n2 c2) L) (hft : FitR ⟨7, m, E, L, has, st, top, true⟩) :
    Calls Tryz.prog 16 #[.agg (fsc 7 m (.slice A1 n1 c1) (.slice A2 n2 c2) has st top true)] w fun e w' => RetFV ⟨0, [], true⟩ 0 w e w' := by
  obtain ⟨W1, hW1, hg1, hs1⟩ : ∃ W, W = w.alloc (.cells (fsc 7 m (.slice A1 n1 c1) (.slice A2 n2 c2) has st top true) 39) ∧ Gr w W ∧ W.heap[w.heap.size]? = some (.cells (fsc 7 m (.slice A1 n1 c1) (.slice A2 n2 c2) has st top true) 39 (0, 0)) := ⟨_, rfl, (Gr.refl _).alloc _, heap_alloc _ _ _⟩
  obtain ⟨W, hW, hg2, hz⟩ : ∃ W, W = W1.alloc (.cells (vcs 0 (.slice none 0 0) false) 49) ∧ Gr W1 W ∧ W.heap[W1.heap.size]? = some (.cells (vcs 0 (.slice none 0 0) false) 49 (0, 0)) := ⟨_, rfl, (Gr.refl _).alloc _, heap_alloc _ _ _⟩
  have e1 : W1.heap.size = w.heap.size + 1 := by rw [hW1]; simp
  obtain ⟨S, hS⟩ : ∃ S, S = w.heap.size := ⟨_, rfl⟩
  obtain ⟨R, hR⟩ : ∃ S, S = w.heap.size + 1 := ⟨_, rfl⟩
  rw [← hS] at hs1
  rw [e1, ← hR] at hz
  have hs := gr_obj hg2 hs1
  have hgw : Gr w W := hg1.trans hg2
  have HRW : Hid (w.heap.size ≤ R) := Lib.hid (by omega)
  have HS := Lib.hid hs
  have HZ := Lib.hid hz
  have HG := Lib.hid hgw
  have HFT := Lib.hid hft
  have HEV := Lib.hid (he.gr hgw)
  have HLV := Lib.hid (hl.gr hgw)
  have k0 : W.cell? ⟨S, 0, none⟩ = some (.int .i64 7) := by rw [cell_of_block hs]; rfl
  rw [hW1] at hW
  clear hg1 hg2 hs1 e1 hW1 hgw he hl hft
  have p10 : W.cell? ⟨S, 10, none⟩ = some (.bool true) := by rw [cell_of_block hs]; rfl
  have p3 : W.cell? ⟨S, 3, none⟩ = some (.slice A2 n2 c2) := by rw [cell_of_block hs]; rfl
  clear hs hz
  go_enter Tryz.func16, Tryz.ntmps16
  go_upto_region 1 with (fail)
  change Code.wp Tryz.prog _ _ _ ((w.alloc (.cells (fsc 7 m (.slice A1 n1 c1) (.slice A2 n2 c2) has st top true) 39)).alloc (.cells (vcs 0 (.slice none 0 0) false) 49))
  rw [← hW, ← hR, ← hS]
  clear hW hR hS
  have hz4 := HZ.out
  have HEW := Lib.hid (SO.nil W w.heap.size)
  have HGW := Lib.hid (HG.out)
  go_wp2_with (refine wpList_store_row rfl 49 (.tmp 2) (.tmp 41) rfl R (vcs 0 (.slice none 0 0) true) rfl rfl 49 _ hz4 vinfo3 rfl (vcs_ones _ _ _ _ _) ?_)
  have hld := run_loadVar_row (P := Tryz.prog) (World.setRow W R (vcs 0 (.slice none 0 0) true)) R 49 49 (vcs 0 (.slice none 0 0) true) (0, 0) _ (setRow_heap W R _ (vcs 0 (.slice none 0 0) true) 49 _ hz4) Tryz.underlying49 rfl vinfo3
  have HO := Lib.hid (And.intro (so_row (vcs 0 (.slice none 0 0) true) hz4 HEW.out) (below_setRow HGW.out HRW.out (vcs 0 (.slice none 0 0) true)))
  clear hz4
  go_wp2_with fail
  exact bodyPost_ret (v := .tuple #[.agg (vcs 0 (.slice none 0 0) true), .int .i64 0]) (by simp [results, Tryz.results16, asAddr, hld]) rfl ⟨_, rfl, HO.out.1, HO.out.2⟩
set_option maxRecDepth 100000 in
set_option maxHeartbeats 4000000 in
theorem fvalue7p_any (m : Int) (A1 A2 : Option Addr) (n1 c1 n2 c2 : Nat) (E : List ByteArray) (L : List TG) (has : Bool) (st : Nat) (top : TG) (hp : 0 < n2) (w : World) (he : SV w (.slice A1 n1 c1) E) (hl : GV w (.slice A2 n2 c2) L) (hft : FitR ⟨7, m, E, L, has, st, top, false⟩) :
    Calls Tryz.prog 16 #[.agg (fsc 7 m (.slice A1 n1 c1) (.slice A2 n2 c2) has st top false)] w fun e w' => RetFV ⟨0, [], true⟩ 0 w e w' := by
  obtain ⟨W1, hW1, hg1, hs1⟩ : ∃ W, W = w.alloc (.cells (fsc 7 m (.slice A1 n1 c1) (.slice A2 n2 c2) has st top false) 39) ∧ Gr w W ∧ W.heap[w.heap.size]? = some (.cells (fsc 7 m (.slice A1 n1 c1) (.slice A2 n2 c2) has st top false) 39 (0, 0)) := ⟨_, rfl, (Gr.refl _).alloc _, heap_alloc _ _ _⟩
  obtain ⟨W, hW, hg2, hz⟩ : ∃ W, W = W1.alloc (.cells (vcs 0 (.slice none 0 0) false) 49) ∧ Gr W1 W ∧ W.heap[W1.heap.size]? = some (.cells (vcs 0 (.slice none 0 0) false) 49 (0, 0)) := ⟨_, rfl, (Gr.refl _).alloc _, heap_alloc _ _ _⟩
  have e1 : W1.heap.size = w.heap.size + 1 := by rw [hW1]; simp
  obtain ⟨S, hS⟩ : ∃ S, S = w.heap.size := ⟨_, rfl⟩
  obtain ⟨R, hR⟩ : ∃ S, S = w.heap.size + 1 := ⟨_, rfl⟩
  rw [← hS] at hs1
  rw [e1, ← hR] at hz
  have hs := gr_obj hg2 hs1
  have hgw : Gr w W := hg1.trans hg2
  have HRW : Hid (w.heap.size ≤ R) := Lib.hid (by omega)
  have HS := Lib.hid hs
  have HZ := Lib.hid hz
  have HG := Lib.hid hgw
  have HFT := Lib.hid hft
  have HEV := Lib.hid (he.gr hgw)
  have HLV := Lib.hid (hl.gr hgw)
  have k0 : W.cell? ⟨S, 0, none⟩ = some (.int .i64 7) := by rw [cell_of_block hs]; rfl
  rw [hW1] at hW
  clear hg1 hg2 hs1 e1 hW1 hgw he hl hft
  have p10 : W.cell? ⟨S, 10, none⟩ = some (.bool false) := by rw [cell_of_block hs]; rfl
  have p3 : W.cell? ⟨S, 3, none⟩ = some (.slice A2 n2 c2) := by rw [cell_of_block hs]; rfl
  have q1 : (0 : Int) < (n2 : Int) := by omega
  have q2 : decide ((0 : Int) < (n2 : Int)) = true := decide_eq_true q1
  have q3 : decide ((n2 : Int) > 0) = true := decide_eq_true q1
  clear hs hz
  go_enter Tryz.func16, Tryz.ntmps16
  go_upto_region 1 with (fail)
  change Code.wp Tryz.prog _ _ _ ((w.alloc (.cells (fsc 7 m (.slice A1 n1 c1) (.slice A2 n2 c2) has st top false) 39)).alloc (.cells (vcs 0 (.slice none 0 0) false) 49))
  rw [← hW, ← hR, ← hS]
  clear hW hR hS
  have hz4 := HZ.out
  have HEW := Lib.hid (SO.nil W w.heap.size)
  have HGW := Lib.hid (HG.out)
  go_wp2_with (refine wpList_store_row rfl 49 (.tmp 2) (.tmp 41) rfl R (vcs 0 (.slice none 0 0) true) rfl rfl 49 _ hz4 vinfo3 rfl (vcs_ones _ _ _ _ _) ?_)
  have hld := run_loadVar_row (P := Tryz.prog) (World.setRow W R (vcs 0 (.slice none 0 0) true)) R 49 49 (vcs 0 (.slice none 0 0) true) (0, 0) _ (setRow_heap W R _ (vcs 0 (.slice none 0 0) true) 49 _ hz4) Tryz.underlying49 rfl vinfo3
  have HO := Lib.hid (And.intro (so_row (vcs 0 (.slice none 0 0) true) hz4 HEW.out) (below_setRow HGW.out HRW.out (vcs 0 (.slice none 0 0) true)))
  clear hz4
  go_wp2_with fail
  exact bodyPost_ret (v := .tuple #[.agg (vcs 0 (.slice none 0 0) true), .int .i64 0]) (by simp [results, Tryz.results16, asAddr, hld]) rfl ⟨_, rfl, HO.out.1, HO.out.2⟩
set_option maxRecDepth 100000 in
set_option maxHeartbeats 4000000 in
theorem fvalue7z_any (m : Int) (A1 A2 : Option Addr) (n1 c1 c2 : Nat) (E : List ByteArray) (L : List TG) (has : Bool) (st : Nat) (top : TG) (w : World) (he : SV w (.slice A1 n1 c1) E) (hl : GV w (.slice A2 0 c2) L) (hft : FitR ⟨7, m, E, L, has, st, top, false⟩) :
    Calls Tryz.prog 16 #[.agg (fsc 7 m (.slice A1 n1 c1) (.slice A2 0 c2) has st top false)] w fun e w' => RetFV ⟨0, [], false⟩ 0 w e w' := by
  obtain ⟨W1, hW1, hg1, hs1⟩ : ∃ W, W = w.alloc (.cells (fsc 7 m (.slice A1 n1 c1) (.slice A2 0 c2) has st top false) 39) ∧ Gr w W ∧ W.heap[w.heap.size]? = some (.cells (fsc 7 m (.slice A1 n1 c1) (.slice A2 0 c2) has st top false) 39 (0, 0)) := ⟨_, rfl, (Gr.refl _).alloc _, heap_alloc _ _ _⟩
  obtain ⟨W, hW, hg2, hz⟩ : ∃ W, W = W1.alloc (.cells (vcs 0 (.slice none 0 0) false) 49) ∧ Gr W1 W ∧ W.heap[W1.heap.size]? = some (.cells (vcs 0 (.slice none 0 0) false) 49 (0, 0)) := ⟨_, rfl, (Gr.refl _).alloc _, heap_alloc _ _ _⟩
  have e1 : W1.heap.size = w.heap.size + 1 := by rw [hW1]; simp
  obtain ⟨S, hS⟩ : ∃ S, S = w.heap.size := ⟨_, rfl⟩
  obtain ⟨R, hR⟩ : ∃ S, S = w.heap.size + 1 := ⟨_, rfl⟩
  rw [← hS] at hs1
  rw [e1, ← hR] at hz
  have hs := gr_obj hg2 hs1
  have hgw : Gr w W := hg1.trans hg2
  have HRW : Hid (w.heap.size ≤ R) := Lib.hid (by omega)
  have HS := Lib.hid hs
  have HZ := Lib.hid hz
  have HG := Lib.hid hgw
  have HFT := Lib.hid hft
  have HEV := Lib.hid (he.gr hgw)
  have HLV := Lib.hid (hl.gr hgw)
  have k0 : W.cell? ⟨S, 0, none⟩ = some (.int .i64 7) := by rw [cell_of_block hs]; rfl
  rw [hW1] at hW
  clear hg1 hg2 hs1 e1 hW1 hgw he hl hft
  have p10 : W.cell? ⟨S, 10, none⟩ = some (.bool false) := by rw [cell_of_block hs]; rfl
  have p3 : W.cell? ⟨S, 3, none⟩ = some (.slice A2 0 c2) := by rw [cell_of_block hs]; rfl
  clear hs hz
  go_enter Tryz.func16, Tryz.ntmps16
  go_upto_region 1 with (fail)
  change Code.wp Tryz.prog _ _ _ ((w.alloc (.cells (fsc 7 m (.slice A1 n1 c1) (.slice A2 0 c2) has st top false) 39)).alloc (.cells (vcs 0 (.slice none 0 0) false) 49))
  rw [← hW, ← hR, ← hS]
  clear hW hR hS
  have hz4 := HZ.out
  have HEW := Lib.hid (SO.nil W w.heap.size)
  have HGW := Lib.hid (HG.out)
  go_wp2_with (refine wpList_store_row rfl 49 (.tmp 2) (.tmp 41) rfl R (vcs 0 (.slice none 0 0) false) rfl rfl 49 _ hz4 vinfo3 rfl (vcs_ones _ _ _ _ _) ?_)
  have hld := run_loadVar_row (P := Tryz.prog) (World.setRow W R (vcs 0 (.slice none 0 0) false)) R 49 49 (vcs 0 (.slice none 0 0) false) (0, 0) _ (setRow_heap W R _ (vcs 0 (.slice none 0 0) false) 49 _ hz4) Tryz.underlying49 rfl vinfo3
  have HO := Lib.hid (And.intro (so_row (vcs 0 (.slice none 0 0) false) hz4 HEW.out) (below_setRow HGW.out HRW.out (vcs 0 (.slice none 0 0) false)))
  clear hz4
  go_wp2_with fail
  exact bodyPost_ret (v := .tuple #[.agg (vcs 0 (.slice none 0 0) false), .int .i64 0]) (by simp [results, Tryz.results16, asAddr, hld]) rfl ⟨_, rfl, HO.out.1, HO.out.2⟩
theorem fvalue_any (s : FS) (v : Value) (hk : knownB s.k = true) (w : World) (h : RV w v s) (hft : FitR s) : Calls Tryz.prog 16 #[v] w fun e w' => RetFV (fvalS s) 0 w e w' := by
  obtain ⟨ve, vl, rfl, he, hl⟩ := h
  obtain ⟨A1, n1, c1, rfl⟩ := sv_form3 he
  obtain ⟨A2, n2, c2, rfl⟩ := gv_form hl
  obtain ⟨k, n, E, L, has, st, top, df⟩ := s
  unfold knownB at hk
  rw [Bool.and_eq_true, decide_eq_true_eq, decide_eq_true_eq] at hk
  simp only at hk he hl ⊢
  obtain rfl | rfl | rfl | rfl | rfl | rfl | rfl | rfl : k = 1 ∨ k = 2 ∨ k = 3 ∨ k = 4 ∨ k = 5 ∨ k = 6 ∨ k = 7 ∨ k = 8 := by omega
  · exact fvalue1_any n A1 A2 n1 c1 n2 c2 E L has st top df w he hl hft
  · exact fvalue2_any n A1 A2 n1 c1 n2 c2 E L has st top df w he hl hft
  · exact fvalue3_any n A1 A2 n1 c1 n2 c2 E L has st top df w he hl hft
  · exact fvalue4_any n A1 A2 n1 c1 n2 c2 E L has st top df w he hl hft
  · exact fvalue5_any n A1 A2 n1 c1 n2 c2 E L has st top df w he hl hft
  · exact fvalue6_any n A1 A2 n1 c1 n2 c2 E L has st top df w he hl hft
  · have hnl : n2 = L.length := by
      obtain ⟨A, c, hv, _⟩ := hl
      injection hv
    cases df with
    | true => exact fvalue7d_any n A1 A2 n1 c1 n2 c2 E L has st top w he hl hft
    | false =>
      rcases Nat.eq_zero_or_pos n2 with h0 | h0
      · have e : fvalS ⟨7, n, E, L, has, st, top, false⟩ = ⟨0, [], false⟩ := by
          have hx : ¬ 0 < L.length := by omega
          show (⟨0, [], false || decide (0 < L.length)⟩ : VR) = _
          rw [decide_eq_false hx]
          rfl
        rw [e]
        subst h0
        exact fvalue7z_any n A1 A2 n1 c1 c2 E L has st top w he hl hft
      · have e : fvalS ⟨7, n, E, L, has, st, top, false⟩ = ⟨0, [], true⟩ := by
          have hx : 0 < L.length := by omega
          show (⟨0, [], false || decide (0 < L.length)⟩ : VR) = _
          rw [decide_eq_true hx]
          rfl
        rw [e]
        exact fvalue7p_any n A1 A2 n1 c1 n2 c2 E L has st top h0 w he hl hft
  · exact fvalue8_any n A1 A2 n1 c1 n2 c2 E L has st top df w he hl hft
end Go.Proofs.YtlihcjlonafohaaGreat
