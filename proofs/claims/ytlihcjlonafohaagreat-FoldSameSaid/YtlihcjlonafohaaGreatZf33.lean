/- Walk: done, the state behind a deed (Firm). Written by wip/tools/genfol.py. Walk: done, the state behind a deed (Last). Written by wip/tools/genfol.py. -/
import Derived.Test.YtlihcjlonafohaaGreatZf30
namespace Go.Proofs.YtlihcjlonafohaaGreat
open Go.RowKit Go.Joins
set_option linter.unusedSimpArgs false
set_option linter.unusedVariables false

set_option maxRecDepth 100000 in
set_option maxHeartbeats 4000000 in
theorem done4a_any (t : TX) (A : Option Addr) (n c : Nat) (o : TO) (g : TG) (m : Int) (A1 A2 : Option Addr) (n1 c1 n2 c2 : Nat) (E : List ByteArray) (L : List TG) (has : Bool) (st : Nat) (top : TG) (df : Bool) (hk : o.kind = 4) (w0 w : World) (h0 : Gr w0 w) (he : SO w w0.heap.size (.slice A1 n1 c1) E) (hl : GOw w w0.heap.size (.slice A2 n2 c2) L) (hft : FitD E L o) :
    Calls Tryz.prog 48 #[.agg (decs t (.slice A n c) o g), .agg (fsc 4 m (.slice A1 n1 c1) (.slice A2 n2 c2) has st top df)] w fun e w' => RetD w0 ⟨4, m, (intoT o.elem E), mrkL t o g 5 4 L, has, st, top, df⟩ e w' := by
  obtain ⟨W1, hW1, hg1, hb1⟩ := fdbox w t (.slice A n c) o g
  obtain ⟨W2, hW2, hg2, hs2⟩ : ∃ W, W = W1.alloc (.cells (fsc 4 m (.slice A1 n1 c1) (.slice A2 n2 c2) has st top df) 39) ∧ Gr W1 W ∧ W.heap[W1.heap.size]? = some (.cells (fsc 4 m (.slice A1 n1 c1) (.slice A2 n2 c2) has st top df) 39 (0, 0)) := ⟨_, rfl, (Gr.refl _).alloc _, heap_alloc _ _ _⟩
  obtain ⟨W, hW, hg3, hz⟩ : ∃ W, W = W2.alloc (.cells (fsc 0 0 (.slice none 0 0) (.slice none 0 0) false 0 tg0 false) 39) ∧ Gr W2 W ∧ W.heap[W2.heap.size]? = some (.cells (fsc 0 0 (.slice none 0 0) (.slice none 0 0) false 0 tg0 false) 39 (0, 0)) := ⟨_, rfl, (Gr.refl _).alloc _, heap_alloc _ _ _⟩
  have e1 : W1.heap.size = w.heap.size + 1 := by rw [hW1]; simp
  have e2 : W2.heap.size = w.heap.size + 1 + 1 := by rw [hW2]; simp [e1]
  obtain ⟨D, hD⟩ : ∃ S, S = w.heap.size := ⟨_, rfl⟩
  obtain ⟨S, hS⟩ : ∃ S, S = w.heap.size + 1 := ⟨_, rfl⟩
  obtain ⟨R, hR⟩ : ∃ S, S = w.heap.size + 1 + 1 := ⟨_, rfl⟩
  rw [← hD] at hb1
  rw [e1, ← hS] at hs2
  rw [e2, ← hR] at hz
  have hb : DBox W D t (.slice A n c) o g := (hb1.gr hg2).gr hg3
  have hs := gr_obj hg3 hs2
  have hgw : Gr w W := (hg1.trans hg2).trans hg3
  have HG0 := Lib.hid (h0.trans hgw)
  have HE := Lib.hid (he.gr hgw)
  have HL := Lib.hid (hl.gr hgw)
  have HB0 : Hid (w0.heap.size ≤ W.heap.size ∧ w0.heap.size ≤ S ∧ w0.heap.size ≤ R ∧ R ≠ S) := Lib.hid (by
    have h1 := h0.size; have h2 := hgw.size
    exact ⟨by omega, by omega, by omega, by omega⟩)
  have HFT := Lib.hid hft
  have HDS : Hid (D ≠ S) := Lib.hid (by omega)
  have k0 : W.cell? ⟨S, 0, none⟩ = some (.int .i64 4) := by rw [cell_of_block hs]; rfl
  have hld : W.heap[D]? = some (.cells (decs t (.slice A n c) o g) 94 (0, 0)) := hb
  have HB := Lib.hid hb
  have HS := Lib.hid hs
  have HZ := Lib.hid hz
  rw [hW1] at hW2
  rw [hW2] at hW
  clear hg1 hg2 hg3 hb1 hs2 e1 e2 hW1 hW2 hb hs hz hgw h0 he hl hft
  obtain ⟨p0, -, p2, -⟩ := HB.out.op
  obtain ⟨ok, hok⟩ : ∃ x, x = o.kind := ⟨_, rfl⟩
  rw [← hok] at p0 hk
  subst hk
  have v2 : W.cell? ⟨S, 2, none⟩ = some (.slice A1 n1 c1) := by rw [cell_of_block HS.out]; rfl
  obtain ⟨oe, hoe⟩ : ∃ x, x = o.elem := ⟨_, rfl⟩
  have HIN := Lib.hid (into_any (.slice A1 n1 c1) E oe W HE.out.sv HFT.out.ever HFT.out.sz (by rw [hoe]; exact HFT.out.oe))
  rw [← hoe] at p2
  have HOE := Lib.hid hoe
  clear hok hoe
  go_enter Tryz.func48, Tryz.ntmps48
  go_upto_region 1 with (fail)
  change Code.wp Tryz.prog _ _ _ (((w.alloc (.cells (decs t (.slice A n c) o g) 94)).alloc (.cells (fsc 4 m (.slice A1 n1 c1) (.slice A2 n2 c2) has st top df) 39)).alloc (.cells (fsc 0 0 (.slice none 0 0) (.slice none 0 0) false 0 tg0 false) 39))
  rw [← hW, ← hR, ← hS, ← hD]
  clear hW hR hS hD
  go_wp2_with fail
  refine HIN.out.mono ?_
  rintro e w3 ⟨vi, rfl, hi, g3⟩
  have hi : SO w3 w0.heap.size vi (intoT oe E) := hi.le HB0.out.1
  rw [HOE.out] at hi
  have hs3 := gr_obj g3 HS.out
  obtain ⟨A5, c5, hv5, -, -⟩ := own_form hi
  obtain ⟨n5, hn5⟩ : ∃ m, m = (intoT o.elem E).length := ⟨_, rfl⟩
  rw [← hn5] at hv5
  subst hv5
  have q2 : w3.cell? ⟨S, 2, none⟩ = some (.slice A1 n1 c1) := by rw [cell_of_block hs3]; rfl
  have f2 := unfrozen_of_block hs3 2
  have HX := Lib.hid (And.intro hi (And.intro hs3 g3))
  clear hi hs3 g3 v2 p0 p2 k0 hld hn5 HIN
  go_upto_region 11 with (fail)
  obtain ⟨W5, hW5⟩ : ∃ X, X = w3.setCell ⟨S, 2, none⟩ (.slice A5 n5 c5) := ⟨_, rfl⟩
  have HS1 : Hid (W5.heap[S]? = some (.cells (fsc 4 m (.slice A5 n5 c5) (.slice A2 n2 c2) has st top df) 39 (0, 0))) := Lib.hid (by rw [hW5]; exact set_obj (i := 2) HX.out.2.1 _)
  have HZ1 : Hid (W5.heap[R]? = some (.cells (fsc 0 0 (.slice none 0 0) (.slice none 0 0) false 0 tg0 false) 39 (0, 0))) := Lib.hid (by rw [hW5]; exact set_obj_other (gr_obj HX.out.2.2 HZ.out) HB0.out.2.2.2 _)
  have HE1 : Hid (SO W5 w0.heap.size (.slice A5 n5 c5) (intoT o.elem E)) := Lib.hid (by rw [hW5]; exact own_set_obj HX.out.1 HX.out.2.1 (by decide) _)
  have HL1 : Hid (GOw W5 w0.heap.size (.slice A2 n2 c2) L) := Lib.hid (by rw [hW5]; exact own_set_obj (HL.out.gr HX.out.2.2) HX.out.2.1 (by decide) _)
  have HG1 : Hid (Gr w0 W5) := Lib.hid (by rw [hW5]; exact (HG0.out.trans HX.out.2.2).setCell HB0.out.2.1 _)
  have HB1 : Hid (DBox W5 D t (.slice A n c) o g) := Lib.hid (by rw [hW5]; exact set_obj_other (gr_obj HX.out.2.2 HB.out) HDS.out _)
  have HBW : Hid (w0.heap.size ≤ W5.heap.size) := Lib.hid HG1.out.size
  rw [← hW5]
  clear hW5 q2 f2
  have hB1 : w0.heap.size ≤ W5.heap.size := HBW.out
  have HMK := Lib.hid (marked_any t n c A o g (.slice A2 n2 c2) L w0.heap.size 5 4 W5 HL1.out hB1 HFT.out.live)
  have v3 : W5.cell? ⟨S, 3, none⟩ = some (.slice A2 n2 c2) := by rw [cell_of_block HS1.out]; rfl
  have hld : W5.heap[D]? = some (.cells (decs t (.slice A n c) o g) 94 (0, 0)) := HB1.out
  clear hB1
  go_wp2_with ((refine wpList_load_row rfl 94 (.tmp 2) rfl D rfl 94 (decs t (.slice A n c) o g) (0, 0) _ hld Tryz.underlying94 rfl dinfo ?_))
  refine HMK.out.mono ?_
  rintro e w2 ⟨vm, rfl, hrow, hob, hkp⟩
  have hne1 := own_ne_obj HL1.out HS1.out (by decide)
  have hne2 := own_ne_obj HL1.out HZ1.out (by decide)
  have hs2 := kp_obj hkp HS1.out hne1
  have hz2 := kp_obj hkp HZ1.out hne2
  have he2 : SO w2 w0.heap.size (.slice A5 n5 c5) (intoT o.elem E) := own_past HE1.out HL1.out (by decide) hkp
  have hg2 : Gr w0 w2 := Below.trans HG1.out (hkp.below HBW.out (fun b hb => (World.ownsRow.lt HL1.out b hb).1))
  obtain ⟨A3, c3, hv3, -, -⟩ := own_form hrow
  obtain ⟨n3, hn3⟩ : ∃ m, m = (mrkL t o g 5 4 L).length := ⟨_, rfl⟩
  rw [← hn3] at hv3
  subst hv3
  have q3 : w2.cell? ⟨S, 3, none⟩ = some (.slice A2 n2 c2) := by rw [cell_of_block hs2]; rfl
  have f3 := unfrozen_of_block hs2 3
  have HR2 := Lib.hid (And.intro hrow (And.intro hs2 (And.intro hz2 (And.intro he2 hg2))))
  clear hrow hob hkp hne1 hne2 hs2 hz2 he2 hg2 v3 hld hn3
  go_upto_region 20 with (fail)
  obtain ⟨W4, hW4⟩ : ∃ X, X = w2.setCell ⟨S, 3, none⟩ (.slice A3 n3 c3) := ⟨_, rfl⟩
  have hs4 : W4.heap[S]? = some (.cells (fsc 4 m (.slice A5 n5 c5) (.slice A3 n3 c3) has st top df) 39 (0, 0)) := by rw [hW4]; exact set_obj (i := 3) HR2.out.2.1 _
  have hz4 : W4.heap[R]? = some (.cells (fsc 0 0 (.slice none 0 0) (.slice none 0 0) false 0 tg0 false) 39 (0, 0)) := by rw [hW4]; exact set_obj_other HR2.out.2.2.1 HB0.out.2.2.2 _
  have he4 : SO W4 w0.heap.size (.slice A5 n5 c5) (intoT o.elem E) := by rw [hW4]; exact own_set_obj HR2.out.2.2.2.1 HR2.out.2.1 (by decide) _
  have hl4 : GOw W4 w0.heap.size (.slice A3 n3 c3) (mrkL t o g 5 4 L) := by rw [hW4]; exact own_set_obj HR2.out.1 HR2.out.2.1 (by decide) _
  have hg4 : Gr w0 W4 := by rw [hW4]; exact HR2.out.2.2.2.2.setCell HB0.out.2.1 _
  rw [← hW4]
  clear hW4 q3 f3
  have HEW := Lib.hid (he4)
  have HLW := Lib.hid (hl4)
  have HGW := Lib.hid (hg4)
  go_wp2_with (first | (refine wpList_load_row rfl 39 (.tmp 3) rfl S rfl 39 (fsc 4 m (.slice A5 n5 c5) (.slice A3 n3 c3) has st top df) (0, 0) _ hs4 Tryz.underlying39 rfl sinfo ?_) | (refine wpList_store_row rfl 39 (.tmp 4) (.tmp 83) rfl R (fsc 4 m (.slice A5 n5 c5) (.slice A3 n3 c3) has st top df) rfl rfl 39 _ hz4 sinfo rfl (fsc_ones _ _ _ _ _ _ _ _ _ _ _ _) ?_))
  have HZF := Lib.hid (setRow_heap W4 R _ (fsc 4 m (.slice A5 n5 c5) (.slice A3 n3 c3) has st top df) 39 _ hz4)
  have HF := Lib.hid (fin_rows ((fsc 4 m (.slice A5 n5 c5) (.slice A3 n3 c3) has st top df)) hz4 HGW.out HB0.out.2.2.1 HEW.out HLW.out)
  clear hs4 hz4
  go_wp2_with fail
  exact bodyPost_ret (results_cell_row Tryz.results48 _ _ R 39 (fsc 4 m (.slice A5 n5 c5) (.slice A3 n3 c3) has st top df) (0, 0) _ rfl HZF.out Tryz.underlying39 rfl sinfo) rfl ⟨_, rfl, ⟨_, _, rfl, HF.out.1, HF.out.2.1⟩, HF.out.2.2⟩
set_option maxRecDepth 100000 in
set_option maxHeartbeats 4000000 in
theorem done4n_any (t : TX) (A : Option Addr) (n c : Nat) (o : TO) (g : TG) (m : Int) (A1 A2 : Option Addr) (n1 c1 n2 c2 : Nat) (E : List ByteArray) (L : List TG) (has : Bool) (st : Nat) (top : TG) (df : Bool) (hk : ¬ o.kind = 4) (w0 w : World) (h0 : Gr w0 w) (he : SO w w0.heap.size (.slice A1 n1 c1) E) (hl : GOw w w0.heap.size (.slice A2 n2 c2) L) (hft : FitD E L o) :
    Calls Tryz.prog 48 #[.agg (decs t (.slice A n c) o g), .agg (fsc 4 m (.slice A1 n1 c1) (.slice A2 n2 c2) has st top df)] w fun e w' => RetD w0 ⟨4, m, E, mrkL t o g 5 4 L, has, st, top, df⟩ e w' := by
  obtain ⟨W1, hW1, hg1, hb1⟩ := fdbox w t (.slice A n c) o g
  obtain ⟨W2, hW2, hg2, hs2⟩ : ∃ W, W = W1.alloc (.cells (fsc 4 m (.slice A1 n1 c1) (.slice A2 n2 c2) has st top df) 39) ∧ Gr W1 W ∧ W.heap[W1.heap.size]? = some (.cells (fsc 4 m (.slice A1 n1 c1) (.slice A2 n2 c2) has st top df) 39 (0, 0)) := ⟨_, rfl, (Gr.refl _).alloc _, heap_alloc _ _ _⟩
  obtain ⟨W, hW, hg3, hz⟩ : ∃ W, W = W2.alloc (.cells (fsc 0 0 (.slice none 0 0) (.slice none 0 0) false 0 tg0 false) 39) ∧ Gr W2 W ∧ W.heap[W2.heap.size]? = some (.cells (fsc 0 0 (.slice none 0 0) (.slice none 0 0) false 0 tg0 false) 39 (0, 0)) := ⟨_, rfl, (Gr.refl _).alloc _, heap_alloc _ _ _⟩
  have e1 : W1.heap.size = w.heap.size + 1 := by rw [hW1]; simp
  have e2 : W2.heap.size = w.heap.size + 1 + 1 := by rw [hW2]; simp [e1]
  obtain ⟨D, hD⟩ : ∃ S, S = w.heap.size := ⟨_, rfl⟩
  obtain ⟨S, hS⟩ : ∃ S, S = w.heap.size + 1 := ⟨_, rfl⟩
  obtain ⟨R, hR⟩ : ∃ S, S = w.heap.size + 1 + 1 := ⟨_, rfl⟩
  rw [← hD] at hb1
  rw [e1, ← hS] at hs2
  rw [e2, ← hR] at hz
  have hb : DBox W D t (.slice A n c) o g := (hb1.gr hg2).gr hg3
  have hs := gr_obj hg3 hs2
  have hgw : Gr w W := (hg1.trans hg2).trans hg3
  have HG0 := Lib.hid (h0.trans hgw)
  have HE := Lib.hid (he.gr hgw)
  have HL := Lib.hid (hl.gr hgw)
  have HB0 : Hid (w0.heap.size ≤ W.heap.size ∧ w0.heap.size ≤ S ∧ w0.heap.size ≤ R ∧ R ≠ S) := Lib.hid (by
    have h1 := h0.size; have h2 := hgw.size
    exact ⟨by omega, by omega, by omega, by omega⟩)
  have HFT := Lib.hid hft
  have k0 : W.cell? ⟨S, 0, none⟩ = some (.int .i64 4) := by rw [cell_of_block hs]; rfl
  have hld : W.heap[D]? = some (.cells (decs t (.slice A n c) o g) 94 (0, 0)) := hb
  have HB := Lib.hid hb
  have HS := Lib.hid hs
  have HZ := Lib.hid hz
  rw [hW1] at hW2
  rw [hW2] at hW
  clear hg1 hg2 hg3 hb1 hs2 e1 e2 hW1 hW2 hb hs hz hgw h0 he hl hft
  obtain ⟨p0, -, p2, -⟩ := HB.out.op
  obtain ⟨ok, hok⟩ : ∃ x, x = o.kind := ⟨_, rfl⟩
  rw [← hok] at p0 hk
  have b4 : (ok == 4) = false := beq_eq_false_iff_ne.2 hk
  have HBW : Hid (w0.heap.size ≤ W.heap.size) := Lib.hid HB0.out.1
  clear hok p2
  go_enter Tryz.func48, Tryz.ntmps48
  go_upto_region 1 with (fail)
  change Code.wp Tryz.prog _ _ _ (((w.alloc (.cells (decs t (.slice A n c) o g) 94)).alloc (.cells (fsc 4 m (.slice A1 n1 c1) (.slice A2 n2 c2) has st top df) 39)).alloc (.cells (fsc 0 0 (.slice none 0 0) (.slice none 0 0) false 0 tg0 false) 39))
  rw [← hW, ← hR, ← hS, ← hD]
  clear hW hR hS hD
  go_upto_region 11 with (fail)
  clear p0 k0 hld b4 hk
  have hB1 : w0.heap.size ≤ W.heap.size := HBW.out
  have HMK := Lib.hid (marked_any t n c A o g (.slice A2 n2 c2) L w0.heap.size 5 4 W HL.out hB1 HFT.out.live)
  have v3 : W.cell? ⟨S, 3, none⟩ = some (.slice A2 n2 c2) := by rw [cell_of_block HS.out]; rfl
  have hld : W.heap[D]? = some (.cells (decs t (.slice A n c) o g) 94 (0, 0)) := HB.out
  clear hB1
  go_wp2_with ((refine wpList_load_row rfl 94 (.tmp 2) rfl D rfl 94 (decs t (.slice A n c) o g) (0, 0) _ hld Tryz.underlying94 rfl dinfo ?_))
  refine HMK.out.mono ?_
  rintro e w2 ⟨vm, rfl, hrow, hob, hkp⟩
  have hne1 := own_ne_obj HL.out HS.out (by decide)
  have hne2 := own_ne_obj HL.out HZ.out (by decide)
  have hs2 := kp_obj hkp HS.out hne1
  have hz2 := kp_obj hkp HZ.out hne2
  have he2 : SO w2 w0.heap.size (.slice A1 n1 c1) E := own_past HE.out HL.out (by decide) hkp
  have hg2 : Gr w0 w2 := Below.trans HG0.out (hkp.below HBW.out (fun b hb => (World.ownsRow.lt HL.out b hb).1))
  obtain ⟨A3, c3, hv3, -, -⟩ := own_form hrow
  obtain ⟨n3, hn3⟩ : ∃ m, m = (mrkL t o g 5 4 L).length := ⟨_, rfl⟩
  rw [← hn3] at hv3
  subst hv3
  have q3 : w2.cell? ⟨S, 3, none⟩ = some (.slice A2 n2 c2) := by rw [cell_of_block hs2]; rfl
  have f3 := unfrozen_of_block hs2 3
  have HR2 := Lib.hid (And.intro hrow (And.intro hs2 (And.intro hz2 (And.intro he2 hg2))))
  clear hrow hob hkp hne1 hne2 hs2 hz2 he2 hg2 v3 hld hn3
  go_upto_region 20 with (fail)
  obtain ⟨W4, hW4⟩ : ∃ X, X = w2.setCell ⟨S, 3, none⟩ (.slice A3 n3 c3) := ⟨_, rfl⟩
  have hs4 : W4.heap[S]? = some (.cells (fsc 4 m (.slice A1 n1 c1) (.slice A3 n3 c3) has st top df) 39 (0, 0)) := by rw [hW4]; exact set_obj (i := 3) HR2.out.2.1 _
  have hz4 : W4.heap[R]? = some (.cells (fsc 0 0 (.slice none 0 0) (.slice none 0 0) false 0 tg0 false) 39 (0, 0)) := by rw [hW4]; exact set_obj_other HR2.out.2.2.1 HB0.out.2.2.2 _
  have he4 : SO W4 w0.heap.size (.slice A1 n1 c1) E := by rw [hW4]; exact own_set_obj HR2.out.2.2.2.1 HR2.out.2.1 (by decide) _
  have hl4 : GOw W4 w0.heap.size (.slice A3 n3 c3) (mrkL t o g 5 4 L) := by rw [hW4]; exact own_set_obj HR2.out.1 HR2.out.2.1 (by decide) _
  have hg4 : Gr w0 W4 := by rw [hW4]; exact HR2.out.2.2.2.2.setCell HB0.out.2.1 _
  rw [← hW4]
  clear hW4 q3 f3
  have HEW := Lib.hid (he4)
  have HLW := Lib.hid (hl4)
  have HGW := Lib.hid (hg4)
  go_wp2_with (first | (refine wpList_load_row rfl 39 (.tmp 3) rfl S rfl 39 (fsc 4 m (.slice A1 n1 c1) (.slice A3 n3 c3) has st top df) (0, 0) _ hs4 Tryz.underlying39 rfl sinfo ?_) | (refine wpList_store_row rfl 39 (.tmp 4) (.tmp 83) rfl R (fsc 4 m (.slice A1 n1 c1) (.slice A3 n3 c3) has st top df) rfl rfl 39 _ hz4 sinfo rfl (fsc_ones _ _ _ _ _ _ _ _ _ _ _ _) ?_))
  have HZF := Lib.hid (setRow_heap W4 R _ (fsc 4 m (.slice A1 n1 c1) (.slice A3 n3 c3) has st top df) 39 _ hz4)
  have HF := Lib.hid (fin_rows ((fsc 4 m (.slice A1 n1 c1) (.slice A3 n3 c3) has st top df)) hz4 HGW.out HB0.out.2.2.1 HEW.out HLW.out)
  clear hs4 hz4
  go_wp2_with fail
  exact bodyPost_ret (results_cell_row Tryz.results48 _ _ R 39 (fsc 4 m (.slice A1 n1 c1) (.slice A3 n3 c3) has st top df) (0, 0) _ rfl HZF.out Tryz.underlying39 rfl sinfo) rfl ⟨_, rfl, ⟨_, _, rfl, HF.out.1, HF.out.2.1⟩, HF.out.2.2⟩
end Go.Proofs.YtlihcjlonafohaaGreat
namespace Go.Proofs.YtlihcjlonafohaaGreat
open Go.RowKit Go.Joins
set_option linter.unusedSimpArgs false
set_option linter.unusedVariables false

set_option maxRecDepth 100000 in
set_option maxHeartbeats 4000000 in
theorem done5n_any (t : TX) (A : Option Addr) (n c : Nat) (o : TO) (g : TG) (m : Int) (A1 A2 : Option Addr) (n1 c1 n2 c2 : Nat) (E : List ByteArray) (L : List TG) (has : Bool) (st : Nat) (top : TG) (df : Bool) (hk : ¬ o.kind = 6) (w0 w : World) (h0 : Gr w0 w) (he : SO w w0.heap.size (.slice A1 n1 c1) E) (hl : GOw w w0.heap.size (.slice A2 n2 c2) L) (hft : FitD E L o) :
    Calls Tryz.prog 48 #[.agg (decs t (.slice A n c) o g), .agg (fsc 5 m (.slice A1 n1 c1) (.slice A2 n2 c2) has st top df)] w fun e w' => RetD w0 ⟨5, m, E, L, has, st, top, df⟩ e w' := by
  obtain ⟨W1, hW1, hg1, hb1⟩ := fdbox w t (.slice A n c) o g
  obtain ⟨W2, hW2, hg2, hs2⟩ : ∃ W, W = W1.alloc (.cells (fsc 5 m (.slice A1 n1 c1) (.slice A2 n2 c2) has st top df) 39) ∧ Gr W1 W ∧ W.heap[W1.heap.size]? = some (.cells (fsc 5 m (.slice A1 n1 c1) (.slice A2 n2 c2) has st top df) 39 (0, 0)) := ⟨_, rfl, (Gr.refl _).alloc _, heap_alloc _ _ _⟩
  obtain ⟨W, hW, hg3, hz⟩ : ∃ W, W = W2.alloc (.cells (fsc 0 0 (.slice none 0 0) (.slice none 0 0) false 0 tg0 false) 39) ∧ Gr W2 W ∧ W.heap[W2.heap.size]? = some (.cells (fsc 0 0 (.slice none 0 0) (.slice none 0 0) false 0 tg0 false) 39 (0, 0)) := ⟨_, rfl, (Gr.refl _).alloc _, heap_alloc _ _ _⟩
  have e1 : W1.heap.size = w.heap.size + 1 := by rw [hW1]; simp
  have e2 : W2.heap.size = w.heap.size + 1 + 1 := by rw [hW2]; simp [e1]
  obtain ⟨D, hD⟩ : ∃ S, S = w.heap.size := ⟨_, rfl⟩
  obtain ⟨S, hS⟩ : ∃ S, S = w.heap.size + 1 := ⟨_, rfl⟩
  obtain ⟨R, hR⟩ : ∃ S, S = w.heap.size + 1 + 1 := ⟨_, rfl⟩
  rw [← hD] at hb1
  rw [e1, ← hS] at hs2
  rw [e2, ← hR] at hz
  have hb : DBox W D t (.slice A n c) o g := (hb1.gr hg2).gr hg3
  have hs := gr_obj hg3 hs2
  have hgw : Gr w W := (hg1.trans hg2).trans hg3
  have HG0 := Lib.hid (h0.trans hgw)
  have HE := Lib.hid (he.gr hgw)
  have HL := Lib.hid (hl.gr hgw)
  have HB0 : Hid (w0.heap.size ≤ W.heap.size ∧ w0.heap.size ≤ S ∧ w0.heap.size ≤ R ∧ R ≠ S) := Lib.hid (by
    have h1 := h0.size; have h2 := hgw.size
    exact ⟨by omega, by omega, by omega, by omega⟩)
  have HFT := Lib.hid hft
  have k0 : W.cell? ⟨S, 0, none⟩ = some (.int .i64 5) := by rw [cell_of_block hs]; rfl
  have hld : W.heap[D]? = some (.cells (decs t (.slice A n c) o g) 94 (0, 0)) := hb
  have HB := Lib.hid hb
  have HS := Lib.hid hs
  have HZ := Lib.hid hz
  rw [hW1] at hW2
  rw [hW2] at hW
  clear hg1 hg2 hg3 hb1 hs2 e1 e2 hW1 hW2 hb hs hz hgw h0 he hl hft
  obtain ⟨p0, -⟩ := HB.out.op
  obtain ⟨ok, hok⟩ : ∃ x, x = o.kind := ⟨_, rfl⟩
  rw [← hok] at p0 hk
  have b6 : (ok == 6) = false := beq_eq_false_iff_ne.2 hk
  clear hok
  go_enter Tryz.func48, Tryz.ntmps48
  go_upto_region 1 with (fail)
  change Code.wp Tryz.prog _ _ _ (((w.alloc (.cells (decs t (.slice A n c) o g) 94)).alloc (.cells (fsc 5 m (.slice A1 n1 c1) (.slice A2 n2 c2) has st top df) 39)).alloc (.cells (fsc 0 0 (.slice none 0 0) (.slice none 0 0) false 0 tg0 false) 39))
  rw [← hW, ← hR, ← hS, ← hD]
  clear hW hR hS hD
  go_upto_region 20 with (fail)
  have hs4 := HS.out
  have hz4 := HZ.out
  clear p0 k0 hld b6 hk
  have HEW := Lib.hid (HE.out)
  have HLW := Lib.hid (HL.out)
  have HGW := Lib.hid (HG0.out)
  go_wp2_with (first | (refine wpList_load_row rfl 39 (.tmp 3) rfl S rfl 39 (fsc 5 m (.slice A1 n1 c1) (.slice A2 n2 c2) has st top df) (0, 0) _ hs4 Tryz.underlying39 rfl sinfo ?_) | (refine wpList_store_row rfl 39 (.tmp 4) (.tmp 83) rfl R (fsc 5 m (.slice A1 n1 c1) (.slice A2 n2 c2) has st top df) rfl rfl 39 _ hz4 sinfo rfl (fsc_ones _ _ _ _ _ _ _ _ _ _ _ _) ?_))
  have HZF := Lib.hid (setRow_heap W R _ (fsc 5 m (.slice A1 n1 c1) (.slice A2 n2 c2) has st top df) 39 _ hz4)
  have HF := Lib.hid (fin_rows ((fsc 5 m (.slice A1 n1 c1) (.slice A2 n2 c2) has st top df)) hz4 HGW.out HB0.out.2.2.1 HEW.out HLW.out)
  clear hs4 hz4
  go_wp2_with fail
  exact bodyPost_ret (results_cell_row Tryz.results48 _ _ R 39 (fsc 5 m (.slice A1 n1 c1) (.slice A2 n2 c2) has st top df) (0, 0) _ rfl HZF.out Tryz.underlying39 rfl sinfo) rfl ⟨_, rfl, ⟨_, _, rfl, HF.out.1, HF.out.2.1⟩, HF.out.2.2⟩
set_option maxRecDepth 100000 in
set_option maxHeartbeats 4000000 in
theorem done5e_any (t : TX) (A : Option Addr) (n c : Nat) (o : TO) (g : TG) (m : Int) (A1 A2 : Option Addr) (n1 c1 n2 c2 : Nat) (E : List ByteArray) (L : List TG) (has : Bool) (st : Nat) (top : TG) (df : Bool) (hk : o.kind = 6) (hlt : latB t g has st top = false) (w0 w : World) (h0 : Gr w0 w) (he : SO w w0.heap.size (.slice A1 n1 c1) E) (hl : GOw w w0.heap.size (.slice A2 n2 c2) L) (hft : FitD E L o) :
    Calls Tryz.prog 48 #[.agg (decs t (.slice A n c) o g), .agg (fsc 5 m (.slice A1 n1 c1) (.slice A2 n2 c2) has st top df)] w fun e w' => RetD w0 ⟨5, m, E, L, has, st, top, df⟩ e w' := by
  obtain ⟨W1, hW1, hg1, hb1⟩ := fdbox w t (.slice A n c) o g
  obtain ⟨W2, hW2, hg2, hs2⟩ : ∃ W, W = W1.alloc (.cells (fsc 5 m (.slice A1 n1 c1) (.slice A2 n2 c2) has st top df) 39) ∧ Gr W1 W ∧ W.heap[W1.heap.size]? = some (.cells (fsc 5 m (.slice A1 n1 c1) (.slice A2 n2 c2) has st top df) 39 (0, 0)) := ⟨_, rfl, (Gr.refl _).alloc _, heap_alloc _ _ _⟩
  obtain ⟨W, hW, hg3, hz⟩ : ∃ W, W = W2.alloc (.cells (fsc 0 0 (.slice none 0 0) (.slice none 0 0) false 0 tg0 false) 39) ∧ Gr W2 W ∧ W.heap[W2.heap.size]? = some (.cells (fsc 0 0 (.slice none 0 0) (.slice none 0 0) false 0 tg0 false) 39 (0, 0)) := ⟨_, rfl, (Gr.refl _).alloc _, heap_alloc _ _ _⟩
  have e1 : W1.heap.size = w.heap.size + 1 := by rw [hW1]; simp
  have e2 : W2.heap.size = w.heap.size + 1 + 1 := by rw [hW2]; simp [e1]
  obtain ⟨D, hD⟩ : ∃ S, S = w.heap.size := ⟨_, rfl⟩
  obtain ⟨S, hS⟩ : ∃ S, S = w.heap.size + 1 := ⟨_, rfl⟩
  obtain ⟨R, hR⟩ : ∃ S, S = w.heap.size + 1 + 1 := ⟨_, rfl⟩
  rw [← hD] at hb1
  rw [e1, ← hS] at hs2
  rw [e2, ← hR] at hz
  have hb : DBox W D t (.slice A n c) o g := (hb1.gr hg2).gr hg3
  have hs := gr_obj hg3 hs2
  have hgw : Gr w W := (hg1.trans hg2).trans hg3
  have HG0 := Lib.hid (h0.trans hgw)
  have HE := Lib.hid (he.gr hgw)
  have HL := Lib.hid (hl.gr hgw)
  have HB0 : Hid (w0.heap.size ≤ W.heap.size ∧ w0.heap.size ≤ S ∧ w0.heap.size ≤ R ∧ R ≠ S) := Lib.hid (by
    have h1 := h0.size; have h2 := hgw.size
    exact ⟨by omega, by omega, by omega, by omega⟩)
  have HFT := Lib.hid hft
  have k0 : W.cell? ⟨S, 0, none⟩ = some (.int .i64 5) := by rw [cell_of_block hs]; rfl
  have hld : W.heap[D]? = some (.cells (decs t (.slice A n c) o g) 94 (0, 0)) := hb
  have HB := Lib.hid hb
  have HS := Lib.hid hs
  have HZ := Lib.hid hz
  rw [hW1] at hW2
  rw [hW2] at hW
  clear hg1 hg2 hg3 hb1 hs2 e1 e2 hW1 hW2 hb hs hz hgw h0 he hl hft
  obtain ⟨p0, -⟩ := HB.out.op
  obtain ⟨ok, hok⟩ : ∃ x, x = o.kind := ⟨_, rfl⟩
  rw [← hok] at p0 hk
  subst hk
  clear hok
  have HLT := Lib.hid (later_any t A n c o g 5 m A1 A2 n1 c1 n2 c2 has st top df W)
  rw [hlt] at HLT
  have hls : W.heap[S]? = some (.cells (fsc 5 m (.slice A1 n1 c1) (.slice A2 n2 c2) has st top df) 39 (0, 0)) := HS.out
  clear hlt
  go_enter Tryz.func48, Tryz.ntmps48
  go_upto_region 1 with (fail)
  change Code.wp Tryz.prog _ _ _ (((w.alloc (.cells (decs t (.slice A n c) o g) 94)).alloc (.cells (fsc 5 m (.slice A1 n1 c1) (.slice A2 n2 c2) has st top df) 39)).alloc (.cells (fsc 0 0 (.slice none 0 0) (.slice none 0 0) false 0 tg0 false) 39))
  rw [← hW, ← hR, ← hS, ← hD]
  clear hW hR hS hD
  go_wp2_with (first | (refine wpList_load_rowG (by kernel_rfl) 94 (.tmp 2) rfl D rfl 94 (decs t (.slice A n c) o g) (0, 0) _ hld Tryz.underlying94 dinfo ?_) | (refine wpList_load_rowG (by kernel_rfl) 39 (.tmp 3) rfl S rfl 39 (fsc 5 m (.slice A1 n1 c1) (.slice A2 n2 c2) has st top df) (0, 0) _ hls Tryz.underlying39 sinfo ?_))
  refine HLT.out.mono ?_
  rintro e w2 ⟨rfl, g2⟩
  have hs2 := gr_obj g2 HS.out
  have HX := Lib.hid (And.intro hs2 g2)
  clear p0 k0 hld hls hs2 g2
  go_upto_region 20 with (fail)
  have hs4 := HX.out.1
  have hz4 := gr_obj HX.out.2 HZ.out
  have HEW := Lib.hid (HE.out.gr HX.out.2)
  have HLW := Lib.hid (HL.out.gr HX.out.2)
  have HGW := Lib.hid (HG0.out.trans HX.out.2)
  go_wp2_with (first | (refine wpList_load_row rfl 39 (.tmp 3) rfl S rfl 39 (fsc 5 m (.slice A1 n1 c1) (.slice A2 n2 c2) has st top df) (0, 0) _ hs4 Tryz.underlying39 rfl sinfo ?_) | (refine wpList_store_row rfl 39 (.tmp 4) (.tmp 83) rfl R (fsc 5 m (.slice A1 n1 c1) (.slice A2 n2 c2) has st top df) rfl rfl 39 _ hz4 sinfo rfl (fsc_ones _ _ _ _ _ _ _ _ _ _ _ _) ?_))
  have HZF := Lib.hid (setRow_heap w2 R _ (fsc 5 m (.slice A1 n1 c1) (.slice A2 n2 c2) has st top df) 39 _ hz4)
  have HF := Lib.hid (fin_rows ((fsc 5 m (.slice A1 n1 c1) (.slice A2 n2 c2) has st top df)) hz4 HGW.out HB0.out.2.2.1 HEW.out HLW.out)
  clear hs4 hz4
  go_wp2_with fail
  exact bodyPost_ret (results_cell_row Tryz.results48 _ _ R 39 (fsc 5 m (.slice A1 n1 c1) (.slice A2 n2 c2) has st top df) (0, 0) _ rfl HZF.out Tryz.underlying39 rfl sinfo) rfl ⟨_, rfl, ⟨_, _, rfl, HF.out.1, HF.out.2.1⟩, HF.out.2.2⟩
set_option maxRecDepth 100000 in
set_option maxHeartbeats 4000000 in
theorem done5y_any (t : TX) (A : Option Addr) (n c : Nat) (o : TO) (g : TG) (m : Int) (A1 A2 : Option Addr) (n1 c1 n2 c2 : Nat) (E : List ByteArray) (L : List TG) (has : Bool) (st : Nat) (top : TG) (df : Bool) (hk : o.kind = 6) (hlt : latB t g has st top = true) (w0 w : World) (h0 : Gr w0 w) (he : SO w w0.heap.size (.slice A1 n1 c1) E) (hl : GOw w w0.heap.size (.slice A2 n2 c2) L) (hft : FitD E L o) :
    Calls Tryz.prog 48 #[.agg (decs t (.slice A n c) o g), .agg (fsc 5 m (.slice A1 n1 c1) (.slice A2 n2 c2) has st top df)] w fun e w' => RetD w0 ⟨5, m, E, L, true, t.stamp, g, df⟩ e w' := by
  obtain ⟨W1, hW1, hg1, hb1⟩ := fdbox w t (.slice A n c) o g
  obtain ⟨W2, hW2, hg2, hs2⟩ : ∃ W, W = W1.alloc (.cells (fsc 5 m (.slice A1 n1 c1) (.slice A2 n2 c2) has st top df) 39) ∧ Gr W1 W ∧ W.heap[W1.heap.size]? = some (.cells (fsc 5 m (.slice A1 n1 c1) (.slice A2 n2 c2) has st top df) 39 (0, 0)) := ⟨_, rfl, (Gr.refl _).alloc _, heap_alloc _ _ _⟩
  obtain ⟨W, hW, hg3, hz⟩ : ∃ W, W = W2.alloc (.cells (fsc 0 0 (.slice none 0 0) (.slice none 0 0) false 0 tg0 false) 39) ∧ Gr W2 W ∧ W.heap[W2.heap.size]? = some (.cells (fsc 0 0 (.slice none 0 0) (.slice none 0 0) false 0 tg0 false) 39 (0, 0)) := ⟨_, rfl, (Gr.refl _).alloc _, heap_alloc _ _ _⟩
  have e1 : W1.heap.size = w.heap.size + 1 := by rw [hW1]; simp
  have e2 : W2.heap.size = w.heap.size + 1 + 1 := by rw [hW2]; simp [e1]
  obtain ⟨D, hD⟩ : ∃ S, S = w.heap.size := ⟨_, rfl⟩
  obtain ⟨S, hS⟩ : ∃ S, S = w.heap.size + 1 := ⟨_, rfl⟩
  obtain ⟨R, hR⟩ : ∃ S, S = w.heap.size + 1 + 1 := ⟨_, rfl⟩
  rw [← hD] at hb1
  rw [e1, ← hS] at hs2
  rw [e2, ← hR] at hz
  have hb : DBox W D t (.slice A n c) o g := (hb1.gr hg2).gr hg3
  have hs := gr_obj hg3 hs2
  have hgw : Gr w W := (hg1.trans hg2).trans hg3
  have HG0 := Lib.hid (h0.trans hgw)
  have HE := Lib.hid (he.gr hgw)
  have HL := Lib.hid (hl.gr hgw)
  have HB0 : Hid (w0.heap.size ≤ W.heap.size ∧ w0.heap.size ≤ S ∧ w0.heap.size ≤ R ∧ R ≠ S) := Lib.hid (by
    have h1 := h0.size; have h2 := hgw.size
    exact ⟨by omega, by omega, by omega, by omega⟩)
  have HFT := Lib.hid hft
  have k0 : W.cell? ⟨S, 0, none⟩ = some (.int .i64 5) := by rw [cell_of_block hs]; rfl
  have hld : W.heap[D]? = some (.cells (decs t (.slice A n c) o g) 94 (0, 0)) := hb
  have HB := Lib.hid hb
  have HS := Lib.hid hs
  have HZ := Lib.hid hz
  rw [hW1] at hW2
  rw [hW2] at hW
  clear hg1 hg2 hg3 hb1 hs2 e1 e2 hW1 hW2 hb hs hz hgw h0 he hl hft
  obtain ⟨p0, -⟩ := HB.out.op
  obtain ⟨ok, hok⟩ : ∃ x, x = o.kind := ⟨_, rfl⟩
  rw [← hok] at p0 hk
  subst hk
  clear hok
  have HLT := Lib.hid (later_any t A n c o g 5 m A1 A2 n1 c1 n2 c2 has st top df W)
  rw [hlt] at HLT
  have hls : W.heap[S]? = some (.cells (fsc 5 m (.slice A1 n1 c1) (.slice A2 n2 c2) has st top df) 39 (0, 0)) := HS.out
  clear hlt
  go_enter Tryz.func48, Tryz.ntmps48
  go_upto_region 1 with (fail)
  change Code.wp Tryz.prog _ _ _ (((w.alloc (.cells (decs t (.slice A n c) o g) 94)).alloc (.cells (fsc 5 m (.slice A1 n1 c1) (.slice A2 n2 c2) has st top df) 39)).alloc (.cells (fsc 0 0 (.slice none 0 0) (.slice none 0 0) false 0 tg0 false) 39))
  rw [← hW, ← hR, ← hS, ← hD]
  clear hW hR hS hD
  go_wp2_with (first | (refine wpList_load_rowG (by kernel_rfl) 94 (.tmp 2) rfl D rfl 94 (decs t (.slice A n c) o g) (0, 0) _ hld Tryz.underlying94 dinfo ?_) | (refine wpList_load_rowG (by kernel_rfl) 39 (.tmp 3) rfl S rfl 39 (fsc 5 m (.slice A1 n1 c1) (.slice A2 n2 c2) has st top df) (0, 0) _ hls Tryz.underlying39 sinfo ?_))
  refine HLT.out.mono ?_
  rintro e w2 ⟨rfl, g2⟩
  have hs2 := gr_obj g2 HS.out
  have HX := Lib.hid (And.intro hs2 g2)
  have hb2 : DBox w2 D t (.slice A n c) o g := HB.out.gr g2
  obtain ⟨g0, g1, g22, g3⟩ := hb2.tg
  obtain ⟨-, -, x2, -⟩ := hb2.tx
  rw [Nat.zero_add] at x2
  have q4 : w2.cell? ⟨S, 4, none⟩ = some (.bool has) := by rw [cell_of_block hs2]; rfl
  have f4 := unfrozen_of_block hs2 4
  have q5 : w2.cell? ⟨S, 5, none⟩ = some (.int .u64 (st : Int)) := by rw [cell_of_block hs2]; rfl
  have f5 := unfrozen_of_block hs2 5
  have q6 : w2.cell? ⟨S, 6, none⟩ = some (.int .i64 top.o) := by rw [cell_of_block hs2]; rfl
  have f6 := unfrozen_of_block hs2 6
  have q7 : w2.cell? ⟨S, 7, none⟩ = some (.int .i64 top.i) := by rw [cell_of_block hs2]; rfl
  have f7 := unfrozen_of_block hs2 7
  have q8 : w2.cell? ⟨S, 8, none⟩ = some (.int .u64 (top.s : Int)) := by rw [cell_of_block hs2]; rfl
  have f8 := unfrozen_of_block hs2 8
  have q9 : w2.cell? ⟨S, 9, none⟩ = some (.string top.e) := by rw [cell_of_block hs2]; rfl
  have f9 := unfrozen_of_block hs2 9
  clear p0 k0 hld hls hs2 hb2
  have HG2 := Lib.hid g2
  clear g2
  go_upto_region 14 with (fail)
  go_region
  go_upto_region 20 with (fail)
  obtain ⟨W4, hW4⟩ : ∃ X, X = ((((((w2.setCell ⟨S, 4, none⟩ (.bool true)).setCell ⟨S, 5, none⟩ (.int .u64 (t.stamp : Int))).setCell ⟨S, 6, none⟩ (.int .i64 g.o)).setCell ⟨S, 7, none⟩ (.int .i64 g.i)).setCell ⟨S, 8, none⟩ (.int .u64 (g.s : Int))).setCell ⟨S, 9, none⟩ (.string g.e)).drew := ⟨_, rfl⟩
  have hs4 : W4.heap[S]? = some (.cells (fsc 5 m (.slice A1 n1 c1) (.slice A2 n2 c2) true t.stamp g df) 39 (0, 0)) := by rw [hW4]; exact (gr_obj (Gr.refl _).drew (set_obj (i := 9) (set_obj (i := 8) (set_obj (i := 7) (set_obj (i := 6) (set_obj (i := 5) (set_obj (i := 4) HX.out.1 _) _) _) _) _) _))
  have hz4 : W4.heap[R]? = some (.cells (fsc 0 0 (.slice none 0 0) (.slice none 0 0) false 0 tg0 false) 39 (0, 0)) := by rw [hW4]; exact (gr_obj (Gr.refl _).drew (set_obj_other (set_obj_other (set_obj_other (set_obj_other (set_obj_other (set_obj_other (gr_obj HX.out.2 HZ.out) HB0.out.2.2.2 _) HB0.out.2.2.2 _) HB0.out.2.2.2 _) HB0.out.2.2.2 _) HB0.out.2.2.2 _) HB0.out.2.2.2 _))
  have he4 : SO W4 w0.heap.size (.slice A1 n1 c1) E := by rw [hW4]; exact (own_gr (own_set_obj (own_set_obj (own_set_obj (own_set_obj (own_set_obj (own_set_obj (HE.out.gr HX.out.2) HX.out.1 (by decide) _) (set_obj (i := 4) HX.out.1 _) (by decide) _) (set_obj (i := 5) (set_obj (i := 4) HX.out.1 _) _) (by decide) _) (set_obj (i := 6) (set_obj (i := 5) (set_obj (i := 4) HX.out.1 _) _) _) (by decide) _) (set_obj (i := 7) (set_obj (i := 6) (set_obj (i := 5) (set_obj (i := 4) HX.out.1 _) _) _) _) (by decide) _) (set_obj (i := 8) (set_obj (i := 7) (set_obj (i := 6) (set_obj (i := 5) (set_obj (i := 4) HX.out.1 _) _) _) _) _) (by decide) _) (Gr.refl _).drew)
  have hl4 : GOw W4 w0.heap.size (.slice A2 n2 c2) L := by rw [hW4]; exact (own_gr (own_set_obj (own_set_obj (own_set_obj (own_set_obj (own_set_obj (own_set_obj (HL.out.gr HX.out.2) HX.out.1 (by decide) _) (set_obj (i := 4) HX.out.1 _) (by decide) _) (set_obj (i := 5) (set_obj (i := 4) HX.out.1 _) _) (by decide) _) (set_obj (i := 6) (set_obj (i := 5) (set_obj (i := 4) HX.out.1 _) _) _) (by decide) _) (set_obj (i := 7) (set_obj (i := 6) (set_obj (i := 5) (set_obj (i := 4) HX.out.1 _) _) _) _) (by decide) _) (set_obj (i := 8) (set_obj (i := 7) (set_obj (i := 6) (set_obj (i := 5) (set_obj (i := 4) HX.out.1 _) _) _) _) _) (by decide) _) (Gr.refl _).drew)
  have hg4 : Gr w0 W4 := by rw [hW4]; exact (((((((HG0.out.trans HX.out.2).setCell HB0.out.2.1 _).setCell HB0.out.2.1 _).setCell HB0.out.2.1 _).setCell HB0.out.2.1 _).setCell HB0.out.2.1 _).setCell HB0.out.2.1 _).drew
  rw [← hW4]
  clear hW4 g0 g1 g22 g3 x2 q4 f4 q5 f5 q6 f6 q7 f7 q8 f8 q9 f9
  have HEW := Lib.hid (he4)
  have HLW := Lib.hid (hl4)
  have HGW := Lib.hid (hg4)
  go_wp2_with (first | (refine wpList_load_row rfl 39 (.tmp 3) rfl S rfl 39 (fsc 5 m (.slice A1 n1 c1) (.slice A2 n2 c2) true t.stamp g df) (0, 0) _ hs4 Tryz.underlying39 rfl sinfo ?_) | (refine wpList_store_row rfl 39 (.tmp 4) (.tmp 83) rfl R (fsc 5 m (.slice A1 n1 c1) (.slice A2 n2 c2) true t.stamp g df) rfl rfl 39 _ hz4 sinfo rfl (fsc_ones _ _ _ _ _ _ _ _ _ _ _ _) ?_))
  have HZF := Lib.hid (setRow_heap W4 R _ (fsc 5 m (.slice A1 n1 c1) (.slice A2 n2 c2) true t.stamp g df) 39 _ hz4)
  have HF := Lib.hid (fin_rows ((fsc 5 m (.slice A1 n1 c1) (.slice A2 n2 c2) true t.stamp g df)) hz4 HGW.out HB0.out.2.2.1 HEW.out HLW.out)
  clear hs4 hz4
  go_wp2_with fail
  exact bodyPost_ret (results_cell_row Tryz.results48 _ _ R 39 (fsc 5 m (.slice A1 n1 c1) (.slice A2 n2 c2) true t.stamp g df) (0, 0) _ rfl HZF.out Tryz.underlying39 rfl sinfo) rfl ⟨_, rfl, ⟨_, _, rfl, HF.out.1, HF.out.2.1⟩, HF.out.2.2⟩
end Go.Proofs.YtlihcjlonafohaaGreat
