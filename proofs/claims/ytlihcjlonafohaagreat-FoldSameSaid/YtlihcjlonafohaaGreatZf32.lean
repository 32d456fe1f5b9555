/- Walk: done, the state behind a deed (Set, Ids, Multi). Written by wip/tools/genfol.py. -/
import Derived.Test.YtlihcjlonafohaaGreatZf30
namespace Go.Proofs.YtlihcjlonafohaaGreat
open Go.RowKit Go.Joins
set_option linter.unusedSimpArgs false
set_option linter.unusedVariables false

set_option maxRecDepth 100000 in
set_option maxHeartbeats 4000000 in
theorem done3_any (t : TX) (A : Option Addr) (n c : Nat) (o : TO) (g : TG) (m : Int) (A1 A2 : Option Addr) (n1 c1 n2 c2 : Nat) (E : List ByteArray) (L : List TG) (has : Bool) (st : Nat) (top : TG) (df : Bool) (w0 w : World) (h0 : Gr w0 w) (he : SO w w0.heap.size (.slice A1 n1 c1) E) (hl : GOw w w0.heap.size (.slice A2 n2 c2) L) (hft : FitD E L o) :
    Calls Tryz.prog 48 #[.agg (decs t (.slice A n c) o g), .agg (fsc 3 m (.slice A1 n1 c1) (.slice A2 n2 c2) has st top df)] w fun e w' => RetD w0 ⟨3, m, E, mrkL t o g 4 5 L, has, st, top, df⟩ e w' := by
  obtain ⟨W1, hW1, hg1, hb1⟩ := fdbox w t (.slice A n c) o g
  obtain ⟨W2, hW2, hg2, hs2⟩ : ∃ W, W = W1.alloc (.cells (fsc 3 m (.slice A1 n1 c1) (.slice A2 n2 c2) has st top df) 39) ∧ Gr W1 W ∧ W.heap[W1.heap.size]? = some (.cells (fsc 3 m (.slice A1 n1 c1) (.slice A2 n2 c2) has st top df) 39 (0, 0)) := ⟨_, rfl, (Gr.refl _).alloc _, heap_alloc _ _ _⟩
  obtain ⟨W, hW, hg3, hz⟩ : ∃ W, W = W2.alloc (.cells (fsc 0 0 (.slice none 0 0) (.slice none 0 0) false 0 tg0 false) 39) ∧ Gr W2 W ∧ W.heap[W2.heap.size]? = some (.cells (fsc 0 0 (.slice none 0 0) (.slice none 0 0) false 0 tg0 false) 39 (0, 0)) := ⟨_, rfl, (Gr.refl _).alloc _, heap_alloc _ _ _⟩
  have e1 : W1.heap.size = w.heap.size + 1 := by rw [hW1]; simp
  have e2 : W2.heap.size = w.heap.size + 1 + 1 := by rw [hW2]; simp [e1]
  obtain ⟨D, hD⟩ : ∃ S, S = w.heap.size := ⟨_, rfl⟩
  obtain ⟨S, hS⟩ : ∃ S, S = w.heap.size + 1 := ⟨_, rfl⟩
  obtain ⟨R, hR⟩ : ∃ S, S = w.heap.size + 1 + 1 := ⟨_, rfl⟩
  rw [← hD] at hb1
  rw [e1, ← hS] at hs2
  rw [e2, ← hR] at hz
  have hb : DBox W D t (.slice A n c) o g := (hb1.gr hg2).gr hg3
  have hs := gr_obj hg3 hs2
  have hgw : Gr w W := (hg1.trans hg2).trans hg3
  have HG0 := Lib.hid (h0.trans hgw)
  have HE := Lib.hid (he.gr hgw)
  have HL := Lib.hid (hl.gr hgw)
  have HB0 : Hid (w0.heap.size ≤ W.heap.size ∧ w0.heap.size ≤ S ∧ w0.heap.size ≤ R ∧ R ≠ S) := Lib.hid (by
    have h1 := h0.size; have h2 := hgw.size
    exact ⟨by omega, by omega, by omega, by omega⟩)
  have HFT := Lib.hid hft
  have k0 : W.cell? ⟨S, 0, none⟩ = some (.int .i64 3) := by rw [cell_of_block hs]; rfl
  have hld : W.heap[D]? = some (.cells (decs t (.slice A n c) o g) 94 (0, 0)) := hb
  have HB := Lib.hid hb
  have HS := Lib.hid hs
  have HZ := Lib.hid hz
  rw [hW1] at hW2
  rw [hW2] at hW
  clear hg1 hg2 hg3 hb1 hs2 e1 e2 hW1 hW2 hb hs hz hgw h0 he hl hft
  have HBW : Hid (w0.heap.size ≤ W.heap.size) := Lib.hid HB0.out.1
  go_enter Tryz.func48, Tryz.ntmps48
  go_upto_region 1 with (fail)
  change Code.wp Tryz.prog _ _ _ (((w.alloc (.cells (decs t (.slice A n c) o g) 94)).alloc (.cells (fsc 3 m (.slice A1 n1 c1) (.slice A2 n2 c2) has st top df) 39)).alloc (.cells (fsc 0 0 (.slice none 0 0) (.slice none 0 0) false 0 tg0 false) 39))
  rw [← hW, ← hR, ← hS, ← hD]
  clear hW hR hS hD
  have hB1 : w0.heap.size ≤ W.heap.size := HBW.out
  have HMK := Lib.hid (marked_any t n c A o g (.slice A2 n2 c2) L w0.heap.size 4 5 W HL.out hB1 HFT.out.live)
  have v3 : W.cell? ⟨S, 3, none⟩ = some (.slice A2 n2 c2) := by rw [cell_of_block HS.out]; rfl
  have hld : W.heap[D]? = some (.cells (decs t (.slice A n c) o g) 94 (0, 0)) := HB.out
  clear hB1
  go_wp2_with ((refine wpList_load_row rfl 94 (.tmp 2) rfl D rfl 94 (decs t (.slice A n c) o g) (0, 0) _ hld Tryz.underlying94 rfl dinfo ?_))
  refine HMK.out.mono ?_
  rintro e w2 ⟨vm, rfl, hrow, hob, hkp⟩
  have hne1 := own_ne_obj HL.out HS.out (by decide)
  have hne2 := own_ne_obj HL.out HZ.out (by decide)
  have hs2 := kp_obj hkp HS.out hne1
  have hz2 := kp_obj hkp HZ.out hne2
  have he2 : SO w2 w0.heap.size (.slice A1 n1 c1) E := own_past HE.out HL.out (by decide) hkp
  have hg2 : Gr w0 w2 := Below.trans HG0.out (hkp.below HBW.out (fun b hb => (World.ownsRow.lt HL.out b hb).1))
  obtain ⟨A3, c3, hv3, -, -⟩ := own_form hrow
  obtain ⟨n3, hn3⟩ : ∃ m, m = (mrkL t o g 4 5 L).length := ⟨_, rfl⟩
  rw [← hn3] at hv3
  subst hv3
  have q3 : w2.cell? ⟨S, 3, none⟩ = some (.slice A2 n2 c2) := by rw [cell_of_block hs2]; rfl
  have f3 := unfrozen_of_block hs2 3
  have HR2 := Lib.hid (And.intro hrow (And.intro hs2 (And.intro hz2 (And.intro he2 hg2))))
  clear hrow hob hkp hne1 hne2 hs2 hz2 he2 hg2 v3 hld hn3
  go_upto_region 20 with (fail)
  obtain ⟨W4, hW4⟩ : ∃ X, X = w2.setCell ⟨S, 3, none⟩ (.slice A3 n3 c3) := ⟨_, rfl⟩
  have hs4 : W4.heap[S]? = some (.cells (fsc 3 m (.slice A1 n1 c1) (.slice A3 n3 c3) has st top df) 39 (0, 0)) := by rw [hW4]; exact set_obj (i := 3) HR2.out.2.1 _
  have hz4 : W4.heap[R]? = some (.cells (fsc 0 0 (.slice none 0 0) (.slice none 0 0) false 0 tg0 false) 39 (0, 0)) := by rw [hW4]; exact set_obj_other HR2.out.2.2.1 HB0.out.2.2.2 _
  have he4 : SO W4 w0.heap.size (.slice A1 n1 c1) E := by rw [hW4]; exact own_set_obj HR2.out.2.2.2.1 HR2.out.2.1 (by decide) _
  have hl4 : GOw W4 w0.heap.size (.slice A3 n3 c3) (mrkL t o g 4 5 L) := by rw [hW4]; exact own_set_obj HR2.out.1 HR2.out.2.1 (by decide) _
  have hg4 : Gr w0 W4 := by rw [hW4]; exact HR2.out.2.2.2.2.setCell HB0.out.2.1 _
  rw [← hW4]
  clear hW4 q3 f3
  have HEW := Lib.hid (he4)
  have HLW := Lib.hid (hl4)
  have HGW := Lib.hid (hg4)
  go_wp2_with (first | (refine wpList_load_row rfl 39 (.tmp 3) rfl S rfl 39 (fsc 3 m (.slice A1 n1 c1) (.slice A3 n3 c3) has st top df) (0, 0) _ hs4 Tryz.underlying39 rfl sinfo ?_) | (refine wpList_store_row rfl 39 (.tmp 4) (.tmp 83) rfl R (fsc 3 m (.slice A1 n1 c1) (.slice A3 n3 c3) has st top df) rfl rfl 39 _ hz4 sinfo rfl (fsc_ones _ _ _ _ _ _ _ _ _ _ _ _) ?_))
  have HZF := Lib.hid (setRow_heap W4 R _ (fsc 3 m (.slice A1 n1 c1) (.slice A3 n3 c3) has st top df) 39 _ hz4)
  have HF := Lib.hid (fin_rows ((fsc 3 m (.slice A1 n1 c1) (.slice A3 n3 c3) has st top df)) hz4 HGW.out HB0.out.2.2.1 HEW.out HLW.out)
  clear hs4 hz4
  go_wp2_with fail
  exact bodyPost_ret (results_cell_row Tryz.results48 _ _ R 39 (fsc 3 m (.slice A1 n1 c1) (.slice A3 n3 c3) has st top df) (0, 0) _ rfl HZF.out Tryz.underlying39 rfl sinfo) rfl ⟨_, rfl, ⟨_, _, rfl, HF.out.1, HF.out.2.1⟩, HF.out.2.2⟩
set_option maxRecDepth 100000 in
set_option maxHeartbeats 4000000 in
theorem done8_any (t : TX) (A : Option Addr) (n c : Nat) (o : TO) (g : TG) (m : Int) (A1 A2 : Option Addr) (n1 c1 n2 c2 : Nat) (E : List ByteArray) (L : List TG) (has : Bool) (st : Nat) (top : TG) (df : Bool) (w0 w : World) (h0 : Gr w0 w) (he : SO w w0.heap.size (.slice A1 n1 c1) E) (hl : GOw w w0.heap.size (.slice A2 n2 c2) L) (hft : FitD E L o) :
    Calls Tryz.prog 48 #[.agg (decs t (.slice A n c) o g), .agg (fsc 8 m (.slice A1 n1 c1) (.slice A2 n2 c2) has st top df)] w fun e w' => RetD w0 ⟨8, m, E, mrkL t o g 4 5 L, has, st, top, df⟩ e w' := by
  obtain ⟨W1, hW1, hg1, hb1⟩ := fdbox w t (.slice A n c) o g
  obtain ⟨W2, hW2, hg2, hs2⟩ : ∃ W, W = W1.alloc (.cells (fsc 8 m (.slice A1 n1 c1) (.slice A2 n2 c2) has st top df) 39) ∧ Gr W1 W ∧ W.heap[W1.heap.size]? = some (.cells (fsc 8 m (.slice A1 n1 c1) (.slice A2 n2 c2) has st top df) 39 (0, 0)) := ⟨_, rfl, (Gr.refl _).alloc _, heap_alloc _ _ _⟩
  obtain ⟨W, hW, hg3, hz⟩ : ∃ W, W = W2.alloc (.cells (fsc 0 0 (.slice none 0 0) (.slice none 0 0) false 0 tg0 false) 39) ∧ Gr W2 W ∧ W.heap[W2.heap.size]? = some (.cells (fsc 0 0 (.slice none 0 0) (.slice none 0 0) false 0 tg0 false) 39 (0, 0)) := ⟨_, rfl, (Gr.refl _).alloc _, heap_alloc _ _ _⟩
  have e1 : W1.heap.size = w.heap.size + 1 := by rw [hW1]; simp
  have e2 : W2.heap.size = w.heap.size + 1 + 1 := by rw [hW2]; simp [e1]
  obtain ⟨D, hD⟩ : ∃ S, S = w.heap.size := ⟨_, rfl⟩
  obtain ⟨S, hS⟩ : ∃ S, S = w.heap.size + 1 := ⟨_, rfl⟩
  obtain ⟨R, hR⟩ : ∃ S, S = w.heap.size + 1 + 1 := ⟨_, rfl⟩
  rw [← hD] at hb1
  rw [e1, ← hS] at hs2
  rw [e2, ← hR] at hz
  have hb : DBox W D t (.slice A n c) o g := (hb1.gr hg2).gr hg3
  have hs := gr_obj hg3 hs2
  have hgw : Gr w W := (hg1.trans hg2).trans hg3
  have HG0 := Lib.hid (h0.trans hgw)
  have HE := Lib.hid (he.gr hgw)
  have HL := Lib.hid (hl.gr hgw)
  have HB0 : Hid (w0.heap.size ≤ W.heap.size ∧ w0.heap.size ≤ S ∧ w0.heap.size ≤ R ∧ R ≠ S) := Lib.hid (by
    have h1 := h0.size; have h2 := hgw.size
    exact ⟨by omega, by omega, by omega, by omega⟩)
  have HFT := Lib.hid hft
  have k0 : W.cell? ⟨S, 0, none⟩ = some (.int .i64 8) := by rw [cell_of_block hs]; rfl
  have hld : W.heap[D]? = some (.cells (decs t (.slice A n c) o g) 94 (0, 0)) := hb
  have HB := Lib.hid hb
  have HS := Lib.hid hs
  have HZ := Lib.hid hz
  rw [hW1] at hW2
  rw [hW2] at hW
  clear hg1 hg2 hg3 hb1 hs2 e1 e2 hW1 hW2 hb hs hz hgw h0 he hl hft
  have HBW : Hid (w0.heap.size ≤ W.heap.size) := Lib.hid HB0.out.1
  go_enter Tryz.func48, Tryz.ntmps48
  go_upto_region 1 with (fail)
  change Code.wp Tryz.prog _ _ _ (((w.alloc (.cells (decs t (.slice A n c) o g) 94)).alloc (.cells (fsc 8 m (.slice A1 n1 c1) (.slice A2 n2 c2) has st top df) 39)).alloc (.cells (fsc 0 0 (.slice none 0 0) (.slice none 0 0) false 0 tg0 false) 39))
  rw [← hW, ← hR, ← hS, ← hD]
  clear hW hR hS hD
  have hB1 : w0.heap.size ≤ W.heap.size := HBW.out
  have HMK := Lib.hid (marked_any t n c A o g (.slice A2 n2 c2) L w0.heap.size 4 5 W HL.out hB1 HFT.out.live)
  have v3 : W.cell? ⟨S, 3, none⟩ = some (.slice A2 n2 c2) := by rw [cell_of_block HS.out]; rfl
  have hld : W.heap[D]? = some (.cells (decs t (.slice A n c) o g) 94 (0, 0)) := HB.out
  clear hB1
  go_wp2_with ((refine wpList_load_row rfl 94 (.tmp 2) rfl D rfl 94 (decs t (.slice A n c) o g) (0, 0) _ hld Tryz.underlying94 rfl dinfo ?_))
  refine HMK.out.mono ?_
  rintro e w2 ⟨vm, rfl, hrow, hob, hkp⟩
  have hne1 := own_ne_obj HL.out HS.out (by decide)
  have hne2 := own_ne_obj HL.out HZ.out (by decide)
  have hs2 := kp_obj hkp HS.out hne1
  have hz2 := kp_obj hkp HZ.out hne2
  have he2 : SO w2 w0.heap.size (.slice A1 n1 c1) E := own_past HE.out HL.out (by decide) hkp
  have hg2 : Gr w0 w2 := Below.trans HG0.out (hkp.below HBW.out (fun b hb => (World.ownsRow.lt HL.out b hb).1))
  obtain ⟨A3, c3, hv3, -, -⟩ := own_form hrow
  obtain ⟨n3, hn3⟩ : ∃ m, m = (mrkL t o g 4 5 L).length := ⟨_, rfl⟩
  rw [← hn3] at hv3
  subst hv3
  have q3 : w2.cell? ⟨S, 3, none⟩ = some (.slice A2 n2 c2) := by rw [cell_of_block hs2]; rfl
  have f3 := unfrozen_of_block hs2 3
  have HR2 := Lib.hid (And.intro hrow (And.intro hs2 (And.intro hz2 (And.intro he2 hg2))))
  clear hrow hob hkp hne1 hne2 hs2 hz2 he2 hg2 v3 hld hn3
  go_upto_region 20 with (fail)
  obtain ⟨W4, hW4⟩ : ∃ X, X = w2.setCell ⟨S, 3, none⟩ (.slice A3 n3 c3) := ⟨_, rfl⟩
  have hs4 : W4.heap[S]? = some (.cells (fsc 8 m (.slice A1 n1 c1) (.slice A3 n3 c3) has st top df) 39 (0, 0)) := by rw [hW4]; exact set_obj (i := 3) HR2.out.2.1 _
  have hz4 : W4.heap[R]? = some (.cells (fsc 0 0 (.slice none 0 0) (.slice none 0 0) false 0 tg0 false) 39 (0, 0)) := by rw [hW4]; exact set_obj_other HR2.out.2.2.1 HB0.out.2.2.2 _
  have he4 : SO W4 w0.heap.size (.slice A1 n1 c1) E := by rw [hW4]; exact own_set_obj HR2.out.2.2.2.1 HR2.out.2.1 (by decide) _
  have hl4 : GOw W4 w0.heap.size (.slice A3 n3 c3) (mrkL t o g 4 5 L) := by rw [hW4]; exact own_set_obj HR2.out.1 HR2.out.2.1 (by decide) _
  have hg4 : Gr w0 W4 := by rw [hW4]; exact HR2.out.2.2.2.2.setCell HB0.out.2.1 _
  rw [← hW4]
  clear hW4 q3 f3
  have HEW := Lib.hid (he4)
  have HLW := Lib.hid (hl4)
  have HGW := Lib.hid (hg4)
  go_wp2_with (first | (refine wpList_load_row rfl 39 (.tmp 3) rfl S rfl 39 (fsc 8 m (.slice A1 n1 c1) (.slice A3 n3 c3) has st top df) (0, 0) _ hs4 Tryz.underlying39 rfl sinfo ?_) | (refine wpList_store_row rfl 39 (.tmp 4) (.tmp 83) rfl R (fsc 8 m (.slice A1 n1 c1) (.slice A3 n3 c3) has st top df) rfl rfl 39 _ hz4 sinfo rfl (fsc_ones _ _ _ _ _ _ _ _ _ _ _ _) ?_))
  have HZF := Lib.hid (setRow_heap W4 R _ (fsc 8 m (.slice A1 n1 c1) (.slice A3 n3 c3) has st top df) 39 _ hz4)
  have HF := Lib.hid (fin_rows ((fsc 8 m (.slice A1 n1 c1) (.slice A3 n3 c3) has st top df)) hz4 HGW.out HB0.out.2.2.1 HEW.out HLW.out)
  clear hs4 hz4
  go_wp2_with fail
  exact bodyPost_ret (results_cell_row Tryz.results48 _ _ R 39 (fsc 8 m (.slice A1 n1 c1) (.slice A3 n3 c3) has st top df) (0, 0) _ rfl HZF.out Tryz.underlying39 rfl sinfo) rfl ⟨_, rfl, ⟨_, _, rfl, HF.out.1, HF.out.2.1⟩, HF.out.2.2⟩
set_option maxRecDepth 100000 in
set_option maxHeartbeats 4000000 in
theorem done6_any (t : TX) (A : Option Addr) (n c : Nat) (o : TO) (g : TG) (m : Int) (A1 A2 : Option Addr) (n1 c1 n2 c2 : Nat) (E : List ByteArray) (L : List TG) (has : Bool) (st : Nat) (top : TG) (df : Bool) (w0 w : World) (h0 : Gr w0 w) (he : SO w w0.heap.size (.slice A1 n1 c1) E) (hl : GOw w w0.heap.size (.slice A2 n2 c2) L) (hft : FitD E L o) :
    Calls Tryz.prog 48 #[.agg (decs t (.slice A n c) o g), .agg (fsc 6 m (.slice A1 n1 c1) (.slice A2 n2 c2) has st top df)] w fun e w' => RetD w0 ⟨6, m, E, mrkL t o g 6 6 L, has, st, top, df⟩ e w' := by
  obtain ⟨W1, hW1, hg1, hb1⟩ := fdbox w t (.slice A n c) o g
  obtain ⟨W2, hW2, hg2, hs2⟩ : ∃ W, W = W1.alloc (.cells (fsc 6 m (.slice A1 n1 c1) (.slice A2 n2 c2) has st top df) 39) ∧ Gr W1 W ∧ W.heap[W1.heap.size]? = some (.cells (fsc 6 m (.slice A1 n1 c1) (.slice A2 n2 c2) has st top df) 39 (0, 0)) := ⟨_, rfl, (Gr.refl _).alloc _, heap_alloc _ _ _⟩
  obtain ⟨W, hW, hg3, hz⟩ : ∃ W, W = W2.alloc (.cells (fsc 0 0 (.slice none 0 0) (.slice none 0 0) false 0 tg0 false) 39) ∧ Gr W2 W ∧ W.heap[W2.heap.size]? = some (.cells (fsc 0 0 (.slice none 0 0) (.slice none 0 0) false 0 tg0 false) 39 (0, 0)) := ⟨_, rfl, (Gr.refl _).alloc _, heap_alloc _ _ _⟩
  have e1 : W1.heap.size = w.heap.size + 1 := by rw [hW1]; simp
  have e2 : W2.heap.size = w.heap.size + 1 + 1 := by rw [hW2]; simp [e1]
  obtain ⟨D, hD⟩ : ∃ S, S = w.heap.size := ⟨_, rfl⟩
  obtain ⟨S, hS⟩ : ∃ S, S = w.heap.size + 1 := ⟨_, rfl⟩
  obtain ⟨R, hR⟩ : ∃ S, S = w.heap.size + 1 + 1 := ⟨_, rfl⟩
  rw [← hD] at hb1
  rw [e1, ← hS] at hs2
  rw [e2, ← hR] at hz
  have hb : DBox W D t (.slice A n c) o g := (hb1.gr hg2).gr hg3
  have hs := gr_obj hg3 hs2
  have hgw : Gr w W := (hg1.trans hg2).trans hg3
  have HG0 := Lib.hid (h0.trans hgw)
  have HE := Lib.hid (he.gr hgw)
  have HL := Lib.hid (hl.gr hgw)
  have HB0 : Hid (w0.heap.size ≤ W.heap.size ∧ w0.heap.size ≤ S ∧ w0.heap.size ≤ R ∧ R ≠ S) := Lib.hid (by
    have h1 := h0.size; have h2 := hgw.size
    exact ⟨by omega, by omega, by omega, by omega⟩)
  have HFT := Lib.hid hft
  have k0 : W.cell? ⟨S, 0, none⟩ = some (.int .i64 6) := by rw [cell_of_block hs]; rfl
  have hld : W.heap[D]? = some (.cells (decs t (.slice A n c) o g) 94 (0, 0)) := hb
  have HB := Lib.hid hb
  have HS := Lib.hid hs
  have HZ := Lib.hid hz
  rw [hW1] at hW2
  rw [hW2] at hW
  clear hg1 hg2 hg3 hb1 hs2 e1 e2 hW1 hW2 hb hs hz hgw h0 he hl hft
  have HBW : Hid (w0.heap.size ≤ W.heap.size) := Lib.hid HB0.out.1
  go_enter Tryz.func48, Tryz.ntmps48
  go_upto_region 1 with (fail)
  change Code.wp Tryz.prog _ _ _ (((w.alloc (.cells (decs t (.slice A n c) o g) 94)).alloc (.cells (fsc 6 m (.slice A1 n1 c1) (.slice A2 n2 c2) has st top df) 39)).alloc (.cells (fsc 0 0 (.slice none 0 0) (.slice none 0 0) false 0 tg0 false) 39))
  rw [← hW, ← hR, ← hS, ← hD]
  clear hW hR hS hD
  have hB1 : w0.heap.size ≤ W.heap.size := HBW.out
  have HMK := Lib.hid (marked_any t n c A o g (.slice A2 n2 c2) L w0.heap.size 6 6 W HL.out hB1 HFT.out.live)
  have v3 : W.cell? ⟨S, 3, none⟩ = some (.slice A2 n2 c2) := by rw [cell_of_block HS.out]; rfl
  have hld : W.heap[D]? = some (.cells (decs t (.slice A n c) o g) 94 (0, 0)) := HB.out
  clear hB1
  go_wp2_with ((refine wpList_load_row rfl 94 (.tmp 2) rfl D rfl 94 (decs t (.slice A n c) o g) (0, 0) _ hld Tryz.underlying94 rfl dinfo ?_))
  refine HMK.out.mono ?_
  rintro e w2 ⟨vm, rfl, hrow, hob, hkp⟩
  have hne1 := own_ne_obj HL.out HS.out (by decide)
  have hne2 := own_ne_obj HL.out HZ.out (by decide)
  have hs2 := kp_obj hkp HS.out hne1
  have hz2 := kp_obj hkp HZ.out hne2
  have he2 : SO w2 w0.heap.size (.slice A1 n1 c1) E := own_past HE.out HL.out (by decide) hkp
  have hg2 : Gr w0 w2 := Below.trans HG0.out (hkp.below HBW.out (fun b hb => (World.ownsRow.lt HL.out b hb).1))
  obtain ⟨A3, c3, hv3, -, -⟩ := own_form hrow
  obtain ⟨n3, hn3⟩ : ∃ m, m = (mrkL t o g 6 6 L).length := ⟨_, rfl⟩
  rw [← hn3] at hv3
  subst hv3
  have q3 : w2.cell? ⟨S, 3, none⟩ = some (.slice A2 n2 c2) := by rw [cell_of_block hs2]; rfl
  have f3 := unfrozen_of_block hs2 3
  have HR2 := Lib.hid (And.intro hrow (And.intro hs2 (And.intro hz2 (And.intro he2 hg2))))
  clear hrow hob hkp hne1 hne2 hs2 hz2 he2 hg2 v3 hld hn3
  go_upto_region 20 with (fail)
  obtain ⟨W4, hW4⟩ : ∃ X, X = w2.setCell ⟨S, 3, none⟩ (.slice A3 n3 c3) := ⟨_, rfl⟩
  have hs4 : W4.heap[S]? = some (.cells (fsc 6 m (.slice A1 n1 c1) (.slice A3 n3 c3) has st top df) 39 (0, 0)) := by rw [hW4]; exact set_obj (i := 3) HR2.out.2.1 _
  have hz4 : W4.heap[R]? = some (.cells (fsc 0 0 (.slice none 0 0) (.slice none 0 0) false 0 tg0 false) 39 (0, 0)) := by rw [hW4]; exact set_obj_other HR2.out.2.2.1 HB0.out.2.2.2 _
  have he4 : SO W4 w0.heap.size (.slice A1 n1 c1) E := by rw [hW4]; exact own_set_obj HR2.out.2.2.2.1 HR2.out.2.1 (by decide) _
  have hl4 : GOw W4 w0.heap.size (.slice A3 n3 c3) (mrkL t o g 6 6 L) := by rw [hW4]; exact own_set_obj HR2.out.1 HR2.out.2.1 (by decide) _
  have hg4 : Gr w0 W4 := by rw [hW4]; exact HR2.out.2.2.2.2.setCell HB0.out.2.1 _
  rw [← hW4]
  clear hW4 q3 f3
  have HEW := Lib.hid (he4)
  have HLW := Lib.hid (hl4)
  have HGW := Lib.hid (hg4)
  go_wp2_with (first | (refine wpList_load_row rfl 39 (.tmp 3) rfl S rfl 39 (fsc 6 m (.slice A1 n1 c1) (.slice A3 n3 c3) has st top df) (0, 0) _ hs4 Tryz.underlying39 rfl sinfo ?_) | (refine wpList_store_row rfl 39 (.tmp 4) (.tmp 83) rfl R (fsc 6 m (.slice A1 n1 c1) (.slice A3 n3 c3) has st top df) rfl rfl 39 _ hz4 sinfo rfl (fsc_ones _ _ _ _ _ _ _ _ _ _ _ _) ?_))
  have HZF := Lib.hid (setRow_heap W4 R _ (fsc 6 m (.slice A1 n1 c1) (.slice A3 n3 c3) has st top df) 39 _ hz4)
  have HF := Lib.hid (fin_rows ((fsc 6 m (.slice A1 n1 c1) (.slice A3 n3 c3) has st top df)) hz4 HGW.out HB0.out.2.2.1 HEW.out HLW.out)
  clear hs4 hz4
  go_wp2_with fail
  exact bodyPost_ret (results_cell_row Tryz.results48 _ _ R 39 (fsc 6 m (.slice A1 n1 c1) (.slice A3 n3 c3) has st top df) (0, 0) _ rfl HZF.out Tryz.underlying39 rfl sinfo) rfl ⟨_, rfl, ⟨_, _, rfl, HF.out.1, HF.out.2.1⟩, HF.out.2.2⟩
end Go.Proofs.YtlihcjlonafohaaGreat
