/- Texts FoL4, joined. -/
import Derived.Test.YtlihcjlonafohaaG31
/- Walk: done, the state behind a deed (Last). Written by wip/tools/genfol.py. -/
namespace Go.Proofs.Ytlihcjlonafohaa
open Go.RowKit Go.Joins
set_option linter.unusedSimpArgs false
set_option linter.unusedVariables false

set_option maxRecDepth 100000 in
set_option maxHeartbeats 4000000 in
theorem done5n_any (t : TX) (A : Option Addr) (n c : Nat) (o : TO) (g : TG) (m : Int) (A1 A2 : Option Addr) (n1 c1 n2 c2 : Nat) (E : List ByteArray) (L : List TG) (has : Bool) (st : Nat) (top : TG) (df : Bool) (hk : ¬ o.kind = 6) (w0 w : World) (h0 : Gr w0 w) (he : SO w w0.heap.size (.slice A1 n1 c1) E) (hl : GOw w w0.heap.size (.slice A2 n2 c2) L) (hft : FitD E L o) :
    Calls Try.prog 23 #[.agg (decs t (.slice A n c) o g), .agg (fsc 5 m (.slice A1 n1 c1) (.slice A2 n2 c2) has st top df)] w fun e w' => RetD w0 ⟨5, m, E, L, has, st, top, df⟩ e w' := by
  obtain ⟨W1, hW1, hg1, hb1⟩ := fdbox w t (.slice A n c) o g
  obtain ⟨W2, hW2, hg2, hs2⟩ : ∃ W, W = W1.alloc (.cells (fsc 5 m (.slice A1 n1 c1) (.slice A2 n2 c2) has st top df) 38) ∧ Gr W1 W ∧ W.heap[W1.heap.size]? = some (.cells (fsc 5 m (.slice A1 n1 c1) (.slice A2 n2 c2) has st top df) 38 (0, 0)) := ⟨_, rfl, (Gr.refl _).alloc _, heap_alloc _ _ _⟩
  obtain ⟨W, hW, hg3, hz⟩ : ∃ W, W = W2.alloc (.cells (fsc 0 0 (.slice none 0 0) (.slice none 0 0) false 0 tg0 false) 38) ∧ Gr W2 W ∧ W.heap[W2.heap.size]? = some (.cells (fsc 0 0 (.slice none 0 0) (.slice none 0 0) false 0 tg0 false) 38 (0, 0)) := ⟨_, rfl, (Gr.refl _).alloc _, heap_alloc _ _ _⟩
  have e1 : W1.heap.size = w.heap.size + 1 := by rw [hW1]; simp
  have e2 : W2.heap.size = w.heap.size + 1 + 1 := by rw [hW2]; simp [e1]
  obtain ⟨D, hD⟩ : ∃ S, S = w.heap.size := ⟨_, rfl⟩
  obtain ⟨S, hS⟩ : ∃ S, S = w.heap.size + 1 := ⟨_, rfl⟩
  obtain ⟨R, hR⟩ : ∃ S, S = w.heap.size + 1 + 1 := ⟨_, rfl⟩
  rw [← hD] at hb1
  rw [e1, ← hS] at hs2
  rw [e2, ← hR] at hz
  have hb : DBox W D t (.slice A n c) o g := (hb1.gr hg2).gr hg3
  have hs := gr_obj hg3 hs2
  have hgw : Gr w W := (hg1.trans hg2).trans hg3
  have HG0 := Lib.hid (h0.trans hgw)
  have HE := Lib.hid (he.gr hgw)
  have HL := Lib.hid (hl.gr hgw)
  have HB0 : Hid (w0.heap.size ≤ W.heap.size ∧ w0.heap.size ≤ S ∧ w0.heap.size ≤ R ∧ R ≠ S) := Lib.hid (by
    have h1 := h0.size; have h2 := hgw.size
    exact ⟨by omega, by omega, by omega, by omega⟩)
  have HFT := Lib.hid hft
  have k0 : W.cell? ⟨S, 0, none⟩ = some (.int .i64 5) := by rw [cell_of_block hs]; rfl
  have hld : W.heap[D]? = some (.cells (decs t (.slice A n c) o g) 62 (0, 0)) := hb
  have HB := Lib.hid hb
  have HS := Lib.hid hs
  have HZ := Lib.hid hz
  rw [hW1] at hW2
  rw [hW2] at hW
  clear hg1 hg2 hg3 hb1 hs2 e1 e2 hW1 hW2 hb hs hz hgw h0 he hl hft
  obtain ⟨p0, -⟩ := HB.out.op
  obtain ⟨ok, hok⟩ : ∃ x, x = o.kind := ⟨_, rfl⟩
  rw [← hok] at p0 hk
  have b6 : (ok == 6) = false := beq_eq_false_iff_ne.2 hk
  clear hok
  go_enter Try.func23, Try.ntmps23
  go_upto_region 1 with (fail)
  change Code.wp Try.prog _ _ _ (((w.alloc (.cells (decs t (.slice A n c) o g) 62)).alloc (.cells (fsc 5 m (.slice A1 n1 c1) (.slice A2 n2 c2) has st top df) 38)).alloc (.cells (fsc 0 0 (.slice none 0 0) (.slice none 0 0) false 0 tg0 false) 38))
  rw [← hW, ← hR, ← hS, ← hD]
  clear hW hR hS hD
  go_upto_region 20 with (fail)
  have hs4 := HS.out
  have hz4 := HZ.out
  clear p0 k0 hld b6 hk
  have HEW := Lib.hid (HE.out)
  have HLW := Lib.hid (HL.out)
  have HGW := Lib.hid (HG0.out)
  go_wp2_with (first | (refine wpList_load_row rfl 38 (.tmp 3) rfl S rfl 38 (fsc 5 m (.slice A1 n1 c1) (.slice A2 n2 c2) has st top df) (0, 0) _ hs4 Try.underlying38 rfl sinfo ?_) | (refine wpList_store_row rfl 38 (.tmp 4) (.tmp 83) rfl R (fsc 5 m (.slice A1 n1 c1) (.slice A2 n2 c2) has st top df) rfl rfl 38 _ hz4 sinfo rfl (fsc_ones _ _ _ _ _ _ _ _ _ _ _ _) ?_))
  have HZF := Lib.hid (setRow_heap W R _ (fsc 5 m (.slice A1 n1 c1) (.slice A2 n2 c2) has st top df) 38 _ hz4)
  have HF := Lib.hid (fin_rows ((fsc 5 m (.slice A1 n1 c1) (.slice A2 n2 c2) has st top df)) hz4 HGW.out HB0.out.2.2.1 HEW.out HLW.out)
  clear hs4 hz4
  go_wp2_with fail
  exact bodyPost_ret (results_cell_row Try.results23 _ _ R 38 (fsc 5 m (.slice A1 n1 c1) (.slice A2 n2 c2) has st top df) (0, 0) _ rfl HZF.out Try.underlying38 rfl sinfo) rfl ⟨_, rfl, ⟨_, _, rfl, HF.out.1, HF.out.2.1⟩, HF.out.2.2⟩
set_option maxRecDepth 100000 in
set_option maxHeartbeats 4000000 in
theorem done5e_any (t : TX) (A : Option Addr) (n c : Nat) (o : TO) (g : TG) (m : Int) (A1 A2 : Option Addr) (n1 c1 n2 c2 : Nat) (E : List ByteArray) (L : List TG) (has : Bool) (st : Nat) (top : TG) (df : Bool) (hk : o.kind = 6) (hlt : latB t g has st top = false) (w0 w : World) (h0 : Gr w0 w) (he : SO w w0.heap.size (.slice A1 n1 c1) E) (hl : GOw w w0.heap.size (.slice A2 n2 c2) L) (hft : FitD E L o) :
    Calls Try.prog 23 #[.agg (decs t (.slice A n c) o g), .agg (fsc 5 m (.slice A1 n1 c1) (.slice A2 n2 c2) has st top df)] w fun e w' => RetD w0 ⟨5, m, E, L, has, st, top, df⟩ e w' := by
  obtain ⟨W1, hW1, hg1, hb1⟩ := fdbox w t (.slice A n c) o g
  obtain ⟨W2, hW2, hg2, hs2⟩ : ∃ W, W = W1.alloc (.cells (fsc 5 m (.slice A1 n1 c1) (.slice A2 n2 c2) has st top df) 38) ∧ Gr W1 W ∧ W.heap[W1.heap.size]? = some (.cells (fsc 5 m (.slice A1 n1 c1) (.slice A2 n2 c2) has st top df) 38 (0, 0)) := ⟨_, rfl, (Gr.refl _).alloc _, heap_alloc _ _ _⟩
  obtain ⟨W, hW, hg3, hz⟩ : ∃ W, W = W2.alloc (.cells (fsc 0 0 (.slice none 0 0) (.slice none 0 0) false 0 tg0 false) 38) ∧ Gr W2 W ∧ W.heap[W2.heap.size]? = some (.cells (fsc 0 0 (.slice none 0 0) (.slice none 0 0) false 0 tg0 false) 38 (0, 0)) := ⟨_, rfl, (Gr.refl _).alloc _, heap_alloc _ _ _⟩
  have e1 : W1.heap.size = w.heap.size + 1 := by rw [hW1]; simp
  have e2 : W2.heap.size = w.heap.size + 1 + 1 := by rw [hW2]; simp [e1]
  obtain ⟨D, hD⟩ : ∃ S, S = w.heap.size := ⟨_, rfl⟩
  obtain ⟨S, hS⟩ : ∃ S, S = w.heap.size + 1 := ⟨_, rfl⟩
  obtain ⟨R, hR⟩ : ∃ S, S = w.heap.size + 1 + 1 := ⟨_, rfl⟩
  rw [← hD] at hb1
  rw [e1, ← hS] at hs2
  rw [e2, ← hR] at hz
  have hb : DBox W D t (.slice A n c) o g := (hb1.gr hg2).gr hg3
  have hs := gr_obj hg3 hs2
  have hgw : Gr w W := (hg1.trans hg2).trans hg3
  have HG0 := Lib.hid (h0.trans hgw)
  have HE := Lib.hid (he.gr hgw)
  have HL := Lib.hid (hl.gr hgw)
  have HB0 : Hid (w0.heap.size ≤ W.heap.size ∧ w0.heap.size ≤ S ∧ w0.heap.size ≤ R ∧ R ≠ S) := Lib.hid (by
    have h1 := h0.size; have h2 := hgw.size
    exact ⟨by omega, by omega, by omega, by omega⟩)
  have HFT := Lib.hid hft
  have k0 : W.cell? ⟨S, 0, none⟩ = some (.int .i64 5) := by rw [cell_of_block hs]; rfl
  have hld : W.heap[D]? = some (.cells (decs t (.slice A n c) o g) 62 (0, 0)) := hb
  have HB := Lib.hid hb
  have HS := Lib.hid hs
  have HZ := Lib.hid hz
  rw [hW1] at hW2
  rw [hW2] at hW
  clear hg1 hg2 hg3 hb1 hs2 e1 e2 hW1 hW2 hb hs hz hgw h0 he hl hft
  obtain ⟨p0, -⟩ := HB.out.op
  obtain ⟨ok, hok⟩ : ∃ x, x = o.kind := ⟨_, rfl⟩
  rw [← hok] at p0 hk
  subst hk
  clear hok
  have HLT := Lib.hid (later_any t A n c o g 5 m A1 A2 n1 c1 n2 c2 has st top df W)
  rw [hlt] at HLT
  have hls : W.heap[S]? = some (.cells (fsc 5 m (.slice A1 n1 c1) (.slice A2 n2 c2) has st top df) 38 (0, 0)) := HS.out
  clear hlt
  go_enter Try.func23, Try.ntmps23
  go_upto_region 1 with (fail)
  change Code.wp Try.prog _ _ _ (((w.alloc (.cells (decs t (.slice A n c) o g) 62)).alloc (.cells (fsc 5 m (.slice A1 n1 c1) (.slice A2 n2 c2) has st top df) 38)).alloc (.cells (fsc 0 0 (.slice none 0 0) (.slice none 0 0) false 0 tg0 false) 38))
  rw [← hW, ← hR, ← hS, ← hD]
  clear hW hR hS hD
  go_wp2_with (first | (refine wpList_load_rowG (by kernel_rfl) 62 (.tmp 2) rfl D rfl 62 (decs t (.slice A n c) o g) (0, 0) _ hld Try.underlying62 dinfo ?_) | (refine wpList_load_rowG (by kernel_rfl) 38 (.tmp 3) rfl S rfl 38 (fsc 5 m (.slice A1 n1 c1) (.slice A2 n2 c2) has st top df) (0, 0) _ hls Try.underlying38 sinfo ?_))
  refine HLT.out.mono ?_
  rintro e w2 ⟨rfl, g2⟩
  have hs2 := gr_obj g2 HS.out
  have HX := Lib.hid (And.intro hs2 g2)
  clear p0 k0 hld hls hs2 g2
  go_upto_region 20 with (fail)
  have hs4 := HX.out.1
  have hz4 := gr_obj HX.out.2 HZ.out
  have HEW := Lib.hid (HE.out.gr HX.out.2)
  have HLW := Lib.hid (HL.out.gr HX.out.2)
  have HGW := Lib.hid (HG0.out.trans HX.out.2)
  go_wp2_with (first | (refine wpList_load_row rfl 38 (.tmp 3) rfl S rfl 38 (fsc 5 m (.slice A1 n1 c1) (.slice A2 n2 c2) has st top df) (0, 0) _ hs4 Try.underlying38 rfl sinfo ?_) | (refine wpList_store_row rfl 38 (.tmp 4) (.tmp 83) rfl R (fsc 5 m (.slice A1 n1 c1) (.slice A2 n2 c2) has st top df) rfl rfl 38 _ hz4 sinfo rfl (fsc_ones _ _ _ _ _ _ _ _ _ _ _ _) ?_))
  have HZF := Lib.hid (setRow_heap w2 R _ (fsc 5 m (.slice A1 n1 c1) (.slice A2 n2 c2) has st top df) 38 _ hz4)
  have HF := Lib.hid (fin_rows ((fsc 5 m (.slice A1 n1 c1) (.slice A2 n2 c2) has st top df)) hz4 HGW.out HB0.out.2.2.1 HEW.out HLW.out)
  clear hs4 hz4
  go_wp2_with fail
  exact bodyPost_ret (results_cell_row Try.results23 _ _ R 38 (fsc 5 m (.slice A1 n1 c1) (.slice A2 n2 c2) has st top df) (0, 0) _ rfl HZF.out Try.underlying38 rfl sinfo) rfl ⟨_, rfl, ⟨_, _, rfl, HF.out.1, HF.out.2.1⟩, HF.out.2.2⟩
set_option maxRecDepth 100000 in
set_option maxHeartbeats 4000000 in
theorem done5y_any (t : TX) (A : Option Addr) (n c : Nat) (o : TO) (g : TG) (m : Int) (A1 A2 : Option Addr) (n1 c1 n2 c2 : Nat) (E : List ByteArray) (L : List TG) (has : Bool) (st : Nat) (top : TG) (df : Bool) (hk : o.kind = 6) (hlt : latB t g has st top = true) (w0 w : World) (h0 : Gr w0 w) (he : SO w w0.heap.size (.slice A1 n1 c1) E) (hl : GOw w w0.heap.size (.slice A2 n2 c2) L) (hft : FitD E L o) :
    Calls Try.prog 23 #[.agg (decs t (.slice A n c) o g), .agg (fsc 5 m (.slice A1 n1 c1) (.slice A2 n2 c2) has st top df)] w fun e w' => RetD w0 ⟨5, m, E, L, true, t.stamp, g, df⟩ e w' := by
  obtain ⟨W1, hW1, hg1, hb1⟩ := fdbox w t (.slice A n c) o g
  obtain ⟨W2, hW2, hg2, hs2⟩ : ∃ W, W = W1.alloc (.cells (fsc 5 m (.slice A1 n1 c1) (.slice A2 n2 c2) has st top df) 38) ∧ Gr W1 W ∧ W.heap[W1.heap.size]? = some (.cells (fsc 5 m (.slice A1 n1 c1) (.slice A2 n2 c2) has st top df) 38 (0, 0)) := ⟨_, rfl, (Gr.refl _).alloc _, heap_alloc _ _ _⟩
  obtain ⟨W, hW, hg3, hz⟩ : ∃ W, W = W2.alloc (.cells (fsc 0 0 (.slice none 0 0) (.slice none 0 0) false 0 tg0 false) 38) ∧ Gr W2 W ∧ W.heap[W2.heap.size]? = some (.cells (fsc 0 0 (.slice none 0 0) (.slice none 0 0) false 0 tg0 false) 38 (0, 0)) := ⟨_, rfl, (Gr.refl _).alloc _, heap_alloc _ _ _⟩
  have e1 : W1.heap.size = w.heap.size + 1 := by rw [hW1]; simp
  have e2 : W2.heap.size = w.heap.size + 1 + 1 := by rw [hW2]; simp [e1]
  obtain ⟨D, hD⟩ : ∃ S, S = w.heap.size := ⟨_, rfl⟩
  obtain ⟨S, hS⟩ : ∃ S, S = w.heap.size + 1 := ⟨_, rfl⟩
  obtain ⟨R, hR⟩ : ∃ S, S = w.heap.size + 1 + 1 := ⟨_, rfl⟩
  rw [← hD] at hb1
  rw [e1, ← hS] at hs2
  rw [e2, ← hR] at hz
  have hb : DBox W D t (.slice A n c) o g := (hb1.gr hg2).gr hg3
  have hs := gr_obj hg3 hs2
  have hgw : Gr w W := (hg1.trans hg2).trans hg3
  have HG0 := Lib.hid (h0.trans hgw)
  have HE := Lib.hid (he.gr hgw)
  have HL := Lib.hid (hl.gr hgw)
  have HB0 : Hid (w0.heap.size ≤ W.heap.size ∧ w0.heap.size ≤ S ∧ w0.heap.size ≤ R ∧ R ≠ S) := Lib.hid (by
    have h1 := h0.size; have h2 := hgw.size
    exact ⟨by omega, by omega, by omega, by omega⟩)
  have HFT := Lib.hid hft
  have k0 : W.cell? ⟨S, 0, none⟩ = some (.int .i64 5) := by rw [cell_of_block hs]; rfl
  have hld : W.heap[D]? = some (.cells (decs t (.slice A n c) o g) 62 (0, 0)) := hb
  have HB := Lib.hid hb
  have HS := Lib.hid hs
  have HZ := Lib.hid hz
  rw [hW1] at hW2
  rw [hW2] at hW
  clear hg1 hg2 hg3 hb1 hs2 e1 e2 hW1 hW2 hb hs hz hgw h0 he hl hft
  obtain ⟨p0, -⟩ := HB.out.op
  obtain ⟨ok, hok⟩ : ∃ x, x = o.kind := ⟨_, rfl⟩
  rw [← hok] at p0 hk
  subst hk
  clear hok
  have HLT := Lib.hid (later_any t A n c o g 5 m A1 A2 n1 c1 n2 c2 has st top df W)
  rw [hlt] at HLT
  have hls : W.heap[S]? = some (.cells (fsc 5 m (.slice A1 n1 c1) (.slice A2 n2 c2) has st top df) 38 (0, 0)) := HS.out
  clear hlt
  go_enter Try.func23, Try.ntmps23
  go_upto_region 1 with (fail)
  change Code.wp Try.prog _ _ _ (((w.alloc (.cells (decs t (.slice A n c) o g) 62)).alloc (.cells (fsc 5 m (.slice A1 n1 c1) (.slice A2 n2 c2) has st top df) 38)).alloc (.cells (fsc 0 0 (.slice none 0 0) (.slice none 0 0) false 0 tg0 false) 38))
  rw [← hW, ← hR, ← hS, ← hD]
  clear hW hR hS hD
  go_wp2_with (first | (refine wpList_load_rowG (by kernel_rfl) 62 (.tmp 2) rfl D rfl 62 (decs t (.slice A n c) o g) (0, 0) _ hld Try.underlying62 dinfo ?_) | (refine wpList_load_rowG (by kernel_rfl) 38 (.tmp 3) rfl S rfl 38 (fsc 5 m (.slice A1 n1 c1) (.slice A2 n2 c2) has st top df) (0, 0) _ hls Try.underlying38 sinfo ?_))
  refine HLT.out.mono ?_
  rintro e w2 ⟨rfl, g2⟩
  have hs2 := gr_obj g2 HS.out
  have HX := Lib.hid (And.intro hs2 g2)
  have hb2 : DBox w2 D t (.slice A n c) o g := HB.out.gr g2
  obtain ⟨g0, g1, g22, g3⟩ := hb2.tg
  obtain ⟨-, -, x2, -⟩ := hb2.tx
  rw [Nat.zero_add] at x2
  have q4 : w2.cell? ⟨S, 4, none⟩ = some (.bool has) := by rw [cell_of_block hs2]; rfl
  have f4 := unfrozen_of_block hs2 4
  have q5 : w2.cell? ⟨S, 5, none⟩ = some (.int .u64 (st : Int)) := by rw [cell_of_block hs2]; rfl
  have f5 := unfrozen_of_block hs2 5
  have q6 : w2.cell? ⟨S, 6, none⟩ = some (.int .i64 top.o) := by rw [cell_of_block hs2]; rfl
  have f6 := unfrozen_of_block hs2 6
  have q7 : w2.cell? ⟨S, 7, none⟩ = some (.int .i64 top.i) := by rw [cell_of_block hs2]; rfl
  have f7 := unfrozen_of_block hs2 7
  have q8 : w2.cell? ⟨S, 8, none⟩ = some (.int .u64 (top.s : Int)) := by rw [cell_of_block hs2]; rfl
  have f8 := unfrozen_of_block hs2 8
  have q9 : w2.cell? ⟨S, 9, none⟩ = some (.string top.e) := by rw [cell_of_block hs2]; rfl
  have f9 := unfrozen_of_block hs2 9
  clear p0 k0 hld hls hs2 hb2
  have HG2 := Lib.hid g2
  clear g2
  go_upto_region 14 with (fail)
  go_region
  go_upto_region 20 with (fail)
  obtain ⟨W4, hW4⟩ : ∃ X, X = ((((((w2.setCell ⟨S, 4, none⟩ (.bool true)).setCell ⟨S, 5, none⟩ (.int .u64 (t.stamp : Int))).setCell ⟨S, 6, none⟩ (.int .i64 g.o)).setCell ⟨S, 7, none⟩ (.int .i64 g.i)).setCell ⟨S, 8, none⟩ (.int .u64 (g.s : Int))).setCell ⟨S, 9, none⟩ (.string g.e)).drew := ⟨_, rfl⟩
  have hs4 : W4.heap[S]? = some (.cells (fsc 5 m (.slice A1 n1 c1) (.slice A2 n2 c2) true t.stamp g df) 38 (0, 0)) := by rw [hW4]; exact (gr_obj (Gr.refl _).drew (set_obj (i := 9) (set_obj (i := 8) (set_obj (i := 7) (set_obj (i := 6) (set_obj (i := 5) (set_obj (i := 4) HX.out.1 _) _) _) _) _) _))
  have hz4 : W4.heap[R]? = some (.cells (fsc 0 0 (.slice none 0 0) (.slice none 0 0) false 0 tg0 false) 38 (0, 0)) := by rw [hW4]; exact (gr_obj (Gr.refl _).drew (set_obj_other (set_obj_other (set_obj_other (set_obj_other (set_obj_other (set_obj_other (gr_obj HX.out.2 HZ.out) HB0.out.2.2.2 _) HB0.out.2.2.2 _) HB0.out.2.2.2 _) HB0.out.2.2.2 _) HB0.out.2.2.2 _) HB0.out.2.2.2 _))
  have he4 : SO W4 w0.heap.size (.slice A1 n1 c1) E := by rw [hW4]; exact (own_gr (own_set_obj (own_set_obj (own_set_obj (own_set_obj (own_set_obj (own_set_obj (HE.out.gr HX.out.2) HX.out.1 (by decide) _) (set_obj (i := 4) HX.out.1 _) (by decide) _) (set_obj (i := 5) (set_obj (i := 4) HX.out.1 _) _) (by decide) _) (set_obj (i := 6) (set_obj (i := 5) (set_obj (i := 4) HX.out.1 _) _) _) (by decide) _) (set_obj (i := 7) (set_obj (i := 6) (set_obj (i := 5) (set_obj (i := 4) HX.out.1 _) _) _) _) (by decide) _) (set_obj (i := 8) (set_obj (i := 7) (set_obj (i := 6) (set_obj (i := 5) (set_obj (i := 4) HX.out.1 _) _) _) _) _) (by decide) _) (Gr.refl _).drew)
  have hl4 : GOw W4 w0.heap.size (.slice A2 n2 c2) L := by rw [hW4]; exact (own_gr (own_set_obj (own_set_obj (own_set_obj (own_set_obj (own_set_obj (own_set_obj (HL.out.gr HX.out.2) HX.out.1 (by decide) _) (set_obj (i := 4) HX.out.1 _) (by decide) _) (set_obj (i := 5) (set_obj (i := 4) HX.out.1 _) _) (by decide) _) (set_obj (i := 6) (set_obj (i := 5) (set_obj (i := 4) HX.out.1 _) _) _) (by decide) _) (set_obj (i := 7) (set_obj (i := 6) (set_obj (i := 5) (set_obj (i := 4) HX.out.1 _) _) _) _) (by decide) _) (set_obj (i := 8) (set_obj (i := 7) (set_obj (i := 6) (set_obj (i := 5) (set_obj (i := 4) HX.out.1 _) _) _) _) _) (by decide) _) (Gr.refl _).drew)
  have hg4 : Gr w0 W4 := by rw [hW4]; exact (((((((HG0.out.trans HX.out.2).setCell HB0.out.2.1 _).setCell HB0.out.2.1 _).setCell HB0.out.2.1 _).setCell HB0.out.2.1 _).setCell HB0.out.2.1 _).setCell HB0.out.2.1 _).drew
  rw [← hW4]
  clear hW4 g0 g1 g22 g3 x2 q4 f4 q5 f5 q6 f6 q7 f7 q8 f8 q9 f9
  have HEW := Lib.hid (he4)
  have HLW := Lib.hid (hl4)
  have HGW := Lib.hid (hg4)
  go_wp2_with (first | (refine wpList_load_row rfl 38 (.tmp 3) rfl S rfl 38 (fsc 5 m (.slice A1 n1 c1) (.slice A2 n2 c2) true t.stamp g df) (0, 0) _ hs4 Try.underlying38 rfl sinfo ?_) | (refine wpList_store_row rfl 38 (.tmp 4) (.tmp 83) rfl R (fsc 5 m (.slice A1 n1 c1) (.slice A2 n2 c2) true t.stamp g df) rfl rfl 38 _ hz4 sinfo rfl (fsc_ones _ _ _ _ _ _ _ _ _ _ _ _) ?_))
  have HZF := Lib.hid (setRow_heap W4 R _ (fsc 5 m (.slice A1 n1 c1) (.slice A2 n2 c2) true t.stamp g df) 38 _ hz4)
  have HF := Lib.hid (fin_rows ((fsc 5 m (.slice A1 n1 c1) (.slice A2 n2 c2) true t.stamp g df)) hz4 HGW.out HB0.out.2.2.1 HEW.out HLW.out)
  clear hs4 hz4
  go_wp2_with fail
  exact bodyPost_ret (results_cell_row Try.results23 _ _ R 38 (fsc 5 m (.slice A1 n1 c1) (.slice A2 n2 c2) true t.stamp g df) (0, 0) _ rfl HZF.out Try.underlying38 rfl sinfo) rfl ⟨_, rfl, ⟨_, _, rfl, HF.out.1, HF.out.2.1⟩, HF.out.2.2⟩
end Go.Proofs.Ytlihcjlonafohaa
