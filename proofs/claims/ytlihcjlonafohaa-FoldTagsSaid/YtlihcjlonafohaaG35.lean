/- Texts FoL5, FoQ, joined. -/
import Derived.Test.YtlihcjlonafohaaG31
import Derived.Test.YtlihcjlonafohaaG32
import Derived.Test.YtlihcjlonafohaaG20
/- Walk: done, the state behind a deed (Flag). Written by wip/tools/genfol.py. -/
namespace Go.Proofs.Ytlihcjlonafohaa
open Go.RowKit Go.Joins
set_option linter.unusedSimpArgs false
set_option linter.unusedVariables false

set_option maxRecDepth 100000 in
set_option maxHeartbeats 4000000 in
theorem done7f_any (t : TX) (A : Option Addr) (n c : Nat) (o : TO) (g : TG) (m : Int) (A1 A2 : Option Addr) (n1 c1 n2 c2 : Nat) (E : List ByteArray) (L : List TG) (has : Bool) (st : Nat) (top : TG) (w0 w : World) (h0 : Gr w0 w) (he : SO w w0.heap.size (.slice A1 n1 c1) E) (hl : GOw w w0.heap.size (.slice A2 n2 c2) L) (hft : FitD E L o) :
    Calls Try.prog 23 #[.agg (decs t (.slice A n c) o g), .agg (fsc 7 m (.slice A1 n1 c1) (.slice A2 n2 c2) has st top false)] w fun e w' => RetD w0 ⟨7, m, E, mrkL t o g 7 8 L, has, st, top, false⟩ e w' := by
  obtain ⟨W1, hW1, hg1, hb1⟩ := fdbox w t (.slice A n c) o g
  obtain ⟨W2, hW2, hg2, hs2⟩ : ∃ W, W = W1.alloc (.cells (fsc 7 m (.slice A1 n1 c1) (.slice A2 n2 c2) has st top false) 38) ∧ Gr W1 W ∧ W.heap[W1.heap.size]? = some (.cells (fsc 7 m (.slice A1 n1 c1) (.slice A2 n2 c2) has st top false) 38 (0, 0)) := ⟨_, rfl, (Gr.refl _).alloc _, heap_alloc _ _ _⟩
  obtain ⟨W, hW, hg3, hz⟩ : ∃ W, W = W2.alloc (.cells (fsc 0 0 (.slice none 0 0) (.slice none 0 0) false 0 tg0 false) 38) ∧ Gr W2 W ∧ W.heap[W2.heap.size]? = some (.cells (fsc 0 0 (.slice none 0 0) (.slice none 0 0) false 0 tg0 false) 38 (0, 0)) := ⟨_, rfl, (Gr.refl _).alloc _, heap_alloc _ _ _⟩
  have e1 : W1.heap.size = w.heap.size + 1 := by rw [hW1]; simp
  have e2 : W2.heap.size = w.heap.size + 1 + 1 := by rw [hW2]; simp [e1]
  obtain ⟨D, hD⟩ : ∃ S, S = w.heap.size := ⟨_, rfl⟩
  obtain ⟨S, hS⟩ : ∃ S, S = w.heap.size + 1 := ⟨_, rfl⟩
  obtain ⟨R, hR⟩ : ∃ S, S = w.heap.size + 1 + 1 := ⟨_, rfl⟩
  rw [← hD] at hb1
  rw [e1, ← hS] at hs2
  rw [e2, ← hR] at hz
  have hb : DBox W D t (.slice A n c) o g := (hb1.gr hg2).gr hg3
  have hs := gr_obj hg3 hs2
  have hgw : Gr w W := (hg1.trans hg2).trans hg3
  have HG0 := Lib.hid (h0.trans hgw)
  have HE := Lib.hid (he.gr hgw)
  have HL := Lib.hid (hl.gr hgw)
  have HB0 : Hid (w0.heap.size ≤ W.heap.size ∧ w0.heap.size ≤ S ∧ w0.heap.size ≤ R ∧ R ≠ S) := Lib.hid (by
    have h1 := h0.size; have h2 := hgw.size
    exact ⟨by omega, by omega, by omega, by omega⟩)
  have HFT := Lib.hid hft
  have HDS : Hid (D ≠ S) := Lib.hid (by omega)
  have k0 : W.cell? ⟨S, 0, none⟩ = some (.int .i64 7) := by rw [cell_of_block hs]; rfl
  have hld : W.heap[D]? = some (.cells (decs t (.slice A n c) o g) 62 (0, 0)) := hb
  have HB := Lib.hid hb
  have HS := Lib.hid hs
  have HZ := Lib.hid hz
  rw [hW1] at hW2
  rw [hW2] at hW
  clear hg1 hg2 hg3 hb1 hs2 e1 e2 hW1 hW2 hb hs hz hgw h0 he hl hft
  have v10 : W.cell? ⟨S, 10, none⟩ = some (.bool false) := by rw [cell_of_block HS.out]; rfl
  have f10 := unfrozen_of_block HS.out 10
  go_enter Try.func23, Try.ntmps23
  go_upto_region 1 with (fail)
  change Code.wp Try.prog _ _ _ (((w.alloc (.cells (decs t (.slice A n c) o g) 62)).alloc (.cells (fsc 7 m (.slice A1 n1 c1) (.slice A2 n2 c2) has st top false) 38)).alloc (.cells (fsc 0 0 (.slice none 0 0) (.slice none 0 0) false 0 tg0 false) 38))
  rw [← hW, ← hR, ← hS, ← hD]
  clear hW hR hS hD
  go_upto_region 19 with (fail)
  obtain ⟨W5, hW5⟩ : ∃ X, X = W.setCell ⟨S, 10, none⟩ (.bool false) := ⟨_, rfl⟩
  have HS1 : Hid (W5.heap[S]? = some (.cells (fsc 7 m (.slice A1 n1 c1) (.slice A2 n2 c2) has st top false) 38 (0, 0))) := Lib.hid (by rw [hW5]; exact set_obj (i := 10) HS.out _)
  have HZ1 : Hid (W5.heap[R]? = some (.cells (fsc 0 0 (.slice none 0 0) (.slice none 0 0) false 0 tg0 false) 38 (0, 0))) := Lib.hid (by rw [hW5]; exact set_obj_other HZ.out HB0.out.2.2.2 _)
  have HE1 : Hid (SO W5 w0.heap.size (.slice A1 n1 c1) E) := Lib.hid (by rw [hW5]; exact own_set_obj HE.out HS.out (by decide) _)
  have HL1 : Hid (GOw W5 w0.heap.size (.slice A2 n2 c2) L) := Lib.hid (by rw [hW5]; exact own_set_obj HL.out HS.out (by decide) _)
  have HG1 : Hid (Gr w0 W5) := Lib.hid (by rw [hW5]; exact HG0.out.setCell HB0.out.2.1 _)
  have HB1 : Hid (DBox W5 D t (.slice A n c) o g) := Lib.hid (by rw [hW5]; exact set_obj_other HB.out HDS.out _)
  have HBW : Hid (w0.heap.size ≤ W5.heap.size) := Lib.hid HG1.out.size
  rw [← hW5]
  clear hW5 v10 f10 k0 hld
  have hB1 : w0.heap.size ≤ W5.heap.size := HBW.out
  have HMK := Lib.hid (marked_any t n c A o g (.slice A2 n2 c2) L w0.heap.size 7 8 W5 HL1.out hB1 HFT.out.live)
  have v3 : W5.cell? ⟨S, 3, none⟩ = some (.slice A2 n2 c2) := by rw [cell_of_block HS1.out]; rfl
  have hld : W5.heap[D]? = some (.cells (decs t (.slice A n c) o g) 62 (0, 0)) := HB1.out
  clear hB1
  go_wp2_with ((refine wpList_load_row rfl 62 (.tmp 2) rfl D rfl 62 (decs t (.slice A n c) o g) (0, 0) _ hld Try.underlying62 rfl dinfo ?_))
  refine HMK.out.mono ?_
  rintro e w2 ⟨vm, rfl, hrow, hob, hkp⟩
  have hne1 := own_ne_obj HL1.out HS1.out (by decide)
  have hne2 := own_ne_obj HL1.out HZ1.out (by decide)
  have hs2 := kp_obj hkp HS1.out hne1
  have hz2 := kp_obj hkp HZ1.out hne2
  have he2 : SO w2 w0.heap.size (.slice A1 n1 c1) E := own_past HE1.out HL1.out (by decide) hkp
  have hg2 : Gr w0 w2 := Below.trans HG1.out (hkp.below HBW.out (fun b hb => (World.ownsRow.lt HL1.out b hb).1))
  obtain ⟨A3, c3, hv3, -, -⟩ := own_form hrow
  obtain ⟨n3, hn3⟩ : ∃ m, m = (mrkL t o g 7 8 L).length := ⟨_, rfl⟩
  rw [← hn3] at hv3
  subst hv3
  have q3 : w2.cell? ⟨S, 3, none⟩ = some (.slice A2 n2 c2) := by rw [cell_of_block hs2]; rfl
  have f3 := unfrozen_of_block hs2 3
  have HR2 := Lib.hid (And.intro hrow (And.intro hs2 (And.intro hz2 (And.intro he2 hg2))))
  clear hrow hob hkp hne1 hne2 hs2 hz2 he2 hg2 v3 hld hn3
  go_upto_region 20 with (fail)
  obtain ⟨W4, hW4⟩ : ∃ X, X = w2.setCell ⟨S, 3, none⟩ (.slice A3 n3 c3) := ⟨_, rfl⟩
  have hs4 : W4.heap[S]? = some (.cells (fsc 7 m (.slice A1 n1 c1) (.slice A3 n3 c3) has st top false) 38 (0, 0)) := by rw [hW4]; exact set_obj (i := 3) HR2.out.2.1 _
  have hz4 : W4.heap[R]? = some (.cells (fsc 0 0 (.slice none 0 0) (.slice none 0 0) false 0 tg0 false) 38 (0, 0)) := by rw [hW4]; exact set_obj_other HR2.out.2.2.1 HB0.out.2.2.2 _
  have he4 : SO W4 w0.heap.size (.slice A1 n1 c1) E := by rw [hW4]; exact own_set_obj HR2.out.2.2.2.1 HR2.out.2.1 (by decide) _
  have hl4 : GOw W4 w0.heap.size (.slice A3 n3 c3) (mrkL t o g 7 8 L) := by rw [hW4]; exact own_set_obj HR2.out.1 HR2.out.2.1 (by decide) _
  have hg4 : Gr w0 W4 := by rw [hW4]; exact HR2.out.2.2.2.2.setCell HB0.out.2.1 _
  rw [← hW4]
  clear hW4 q3 f3
  have HEW := Lib.hid (he4)
  have HLW := Lib.hid (hl4)
  have HGW := Lib.hid (hg4)
  go_wp2_with (first | (refine wpList_load_row rfl 38 (.tmp 3) rfl S rfl 38 (fsc 7 m (.slice A1 n1 c1) (.slice A3 n3 c3) has st top false) (0, 0) _ hs4 Try.underlying38 rfl sinfo ?_) | (refine wpList_store_row rfl 38 (.tmp 4) (.tmp 83) rfl R (fsc 7 m (.slice A1 n1 c1) (.slice A3 n3 c3) has st top false) rfl rfl 38 _ hz4 sinfo rfl (fsc_ones _ _ _ _ _ _ _ _ _ _ _ _) ?_))
  have HZF := Lib.hid (setRow_heap W4 R _ (fsc 7 m (.slice A1 n1 c1) (.slice A3 n3 c3) has st top false) 38 _ hz4)
  have HF := Lib.hid (fin_rows ((fsc 7 m (.slice A1 n1 c1) (.slice A3 n3 c3) has st top false)) hz4 HGW.out HB0.out.2.2.1 HEW.out HLW.out)
  clear hs4 hz4
  go_wp2_with fail
  exact bodyPost_ret (results_cell_row Try.results23 _ _ R 38 (fsc 7 m (.slice A1 n1 c1) (.slice A3 n3 c3) has st top false) (0, 0) _ rfl HZF.out Try.underlying38 rfl sinfo) rfl ⟨_, rfl, ⟨_, _, rfl, HF.out.1, HF.out.2.1⟩, HF.out.2.2⟩
set_option maxRecDepth 100000 in
set_option maxHeartbeats 4000000 in
theorem done7o_any (t : TX) (A : Option Addr) (n c : Nat) (o : TO) (g : TG) (m : Int) (A1 A2 : Option Addr) (n1 c1 n2 c2 : Nat) (E : List ByteArray) (L : List TG) (has : Bool) (st : Nat) (top : TG) (hk : o.kind = 8) (w0 w : World) (h0 : Gr w0 w) (he : SO w w0.heap.size (.slice A1 n1 c1) E) (hl : GOw w w0.heap.size (.slice A2 n2 c2) L) (hft : FitD E L o) :
    Calls Try.prog 23 #[.agg (decs t (.slice A n c) o g), .agg (fsc 7 m (.slice A1 n1 c1) (.slice A2 n2 c2) has st top true)] w fun e w' => RetD w0 ⟨7, m, E, mrkL t o g 7 8 L, has, st, top, false⟩ e w' := by
  obtain ⟨W1, hW1, hg1, hb1⟩ := fdbox w t (.slice A n c) o g
  obtain ⟨W2, hW2, hg2, hs2⟩ : ∃ W, W = W1.alloc (.cells (fsc 7 m (.slice A1 n1 c1) (.slice A2 n2 c2) has st top true) 38) ∧ Gr W1 W ∧ W.heap[W1.heap.size]? = some (.cells (fsc 7 m (.slice A1 n1 c1) (.slice A2 n2 c2) has st top true) 38 (0, 0)) := ⟨_, rfl, (Gr.refl _).alloc _, heap_alloc _ _ _⟩
  obtain ⟨W, hW, hg3, hz⟩ : ∃ W, W = W2.alloc (.cells (fsc 0 0 (.slice none 0 0) (.slice none 0 0) false 0 tg0 false) 38) ∧ Gr W2 W ∧ W.heap[W2.heap.size]? = some (.cells (fsc 0 0 (.slice none 0 0) (.slice none 0 0) false 0 tg0 false) 38 (0, 0)) := ⟨_, rfl, (Gr.refl _).alloc _, heap_alloc _ _ _⟩
  have e1 : W1.heap.size = w.heap.size + 1 := by rw [hW1]; simp
  have e2 : W2.heap.size = w.heap.size + 1 + 1 := by rw [hW2]; simp [e1]
  obtain ⟨D, hD⟩ : ∃ S, S = w.heap.size := ⟨_, rfl⟩
  obtain ⟨S, hS⟩ : ∃ S, S = w.heap.size + 1 := ⟨_, rfl⟩
  obtain ⟨R, hR⟩ : ∃ S, S = w.heap.size + 1 + 1 := ⟨_, rfl⟩
  rw [← hD] at hb1
  rw [e1, ← hS] at hs2
  rw [e2, ← hR] at hz
  have hb : DBox W D t (.slice A n c) o g := (hb1.gr hg2).gr hg3
  have hs := gr_obj hg3 hs2
  have hgw : Gr w W := (hg1.trans hg2).trans hg3
  have HG0 := Lib.hid (h0.trans hgw)
  have HE := Lib.hid (he.gr hgw)
  have HL := Lib.hid (hl.gr hgw)
  have HB0 : Hid (w0.heap.size ≤ W.heap.size ∧ w0.heap.size ≤ S ∧ w0.heap.size ≤ R ∧ R ≠ S) := Lib.hid (by
    have h1 := h0.size; have h2 := hgw.size
    exact ⟨by omega, by omega, by omega, by omega⟩)
  have HFT := Lib.hid hft
  have HDS : Hid (D ≠ S) := Lib.hid (by omega)
  have k0 : W.cell? ⟨S, 0, none⟩ = some (.int .i64 7) := by rw [cell_of_block hs]; rfl
  have hld : W.heap[D]? = some (.cells (decs t (.slice A n c) o g) 62 (0, 0)) := hb
  have HB := Lib.hid hb
  have HS := Lib.hid hs
  have HZ := Lib.hid hz
  rw [hW1] at hW2
  rw [hW2] at hW
  clear hg1 hg2 hg3 hb1 hs2 e1 e2 hW1 hW2 hb hs hz hgw h0 he hl hft
  have v10 : W.cell? ⟨S, 10, none⟩ = some (.bool true) := by rw [cell_of_block HS.out]; rfl
  have f10 := unfrozen_of_block HS.out 10
  obtain ⟨p0, -⟩ := HB.out.op
  obtain ⟨ok, hok⟩ : ∃ x, x = o.kind := ⟨_, rfl⟩
  rw [← hok] at p0 hk
  subst hk
  clear hok
  go_enter Try.func23, Try.ntmps23
  go_upto_region 1 with (fail)
  change Code.wp Try.prog _ _ _ (((w.alloc (.cells (decs t (.slice A n c) o g) 62)).alloc (.cells (fsc 7 m (.slice A1 n1 c1) (.slice A2 n2 c2) has st top true) 38)).alloc (.cells (fsc 0 0 (.slice none 0 0) (.slice none 0 0) false 0 tg0 false) 38))
  rw [← hW, ← hR, ← hS, ← hD]
  clear hW hR hS hD
  go_upto_region 19 with (fail)
  obtain ⟨W5, hW5⟩ : ∃ X, X = W.setCell ⟨S, 10, none⟩ (.bool false) := ⟨_, rfl⟩
  have HS1 : Hid (W5.heap[S]? = some (.cells (fsc 7 m (.slice A1 n1 c1) (.slice A2 n2 c2) has st top false) 38 (0, 0))) := Lib.hid (by rw [hW5]; exact set_obj (i := 10) HS.out _)
  have HZ1 : Hid (W5.heap[R]? = some (.cells (fsc 0 0 (.slice none 0 0) (.slice none 0 0) false 0 tg0 false) 38 (0, 0))) := Lib.hid (by rw [hW5]; exact set_obj_other HZ.out HB0.out.2.2.2 _)
  have HE1 : Hid (SO W5 w0.heap.size (.slice A1 n1 c1) E) := Lib.hid (by rw [hW5]; exact own_set_obj HE.out HS.out (by decide) _)
  have HL1 : Hid (GOw W5 w0.heap.size (.slice A2 n2 c2) L) := Lib.hid (by rw [hW5]; exact own_set_obj HL.out HS.out (by decide) _)
  have HG1 : Hid (Gr w0 W5) := Lib.hid (by rw [hW5]; exact HG0.out.setCell HB0.out.2.1 _)
  have HB1 : Hid (DBox W5 D t (.slice A n c) o g) := Lib.hid (by rw [hW5]; exact set_obj_other HB.out HDS.out _)
  have HBW : Hid (w0.heap.size ≤ W5.heap.size) := Lib.hid HG1.out.size
  rw [← hW5]
  clear hW5 v10 f10 k0 hld p0
  have hB1 : w0.heap.size ≤ W5.heap.size := HBW.out
  have HMK := Lib.hid (marked_any t n c A o g (.slice A2 n2 c2) L w0.heap.size 7 8 W5 HL1.out hB1 HFT.out.live)
  have v3 : W5.cell? ⟨S, 3, none⟩ = some (.slice A2 n2 c2) := by rw [cell_of_block HS1.out]; rfl
  have hld : W5.heap[D]? = some (.cells (decs t (.slice A n c) o g) 62 (0, 0)) := HB1.out
  clear hB1
  go_wp2_with ((refine wpList_load_row rfl 62 (.tmp 2) rfl D rfl 62 (decs t (.slice A n c) o g) (0, 0) _ hld Try.underlying62 rfl dinfo ?_))
  refine HMK.out.mono ?_
  rintro e w2 ⟨vm, rfl, hrow, hob, hkp⟩
  have hne1 := own_ne_obj HL1.out HS1.out (by decide)
  have hne2 := own_ne_obj HL1.out HZ1.out (by decide)
  have hs2 := kp_obj hkp HS1.out hne1
  have hz2 := kp_obj hkp HZ1.out hne2
  have he2 : SO w2 w0.heap.size (.slice A1 n1 c1) E := own_past HE1.out HL1.out (by decide) hkp
  have hg2 : Gr w0 w2 := Below.trans HG1.out (hkp.below HBW.out (fun b hb => (World.ownsRow.lt HL1.out b hb).1))
  obtain ⟨A3, c3, hv3, -, -⟩ := own_form hrow
  obtain ⟨n3, hn3⟩ : ∃ m, m = (mrkL t o g 7 8 L).length := ⟨_, rfl⟩
  rw [← hn3] at hv3
  subst hv3
  have q3 : w2.cell? ⟨S, 3, none⟩ = some (.slice A2 n2 c2) := by rw [cell_of_block hs2]; rfl
  have f3 := unfrozen_of_block hs2 3
  have HR2 := Lib.hid (And.intro hrow (And.intro hs2 (And.intro hz2 (And.intro he2 hg2))))
  clear hrow hob hkp hne1 hne2 hs2 hz2 he2 hg2 v3 hld hn3
  go_upto_region 20 with (fail)
  obtain ⟨W4, hW4⟩ : ∃ X, X = w2.setCell ⟨S, 3, none⟩ (.slice A3 n3 c3) := ⟨_, rfl⟩
  have hs4 : W4.heap[S]? = some (.cells (fsc 7 m (.slice A1 n1 c1) (.slice A3 n3 c3) has st top false) 38 (0, 0)) := by rw [hW4]; exact set_obj (i := 3) HR2.out.2.1 _
  have hz4 : W4.heap[R]? = some (.cells (fsc 0 0 (.slice none 0 0) (.slice none 0 0) false 0 tg0 false) 38 (0, 0)) := by rw [hW4]; exact set_obj_other HR2.out.2.2.1 HB0.out.2.2.2 _
  have he4 : SO W4 w0.heap.size (.slice A1 n1 c1) E := by rw [hW4]; exact own_set_obj HR2.out.2.2.2.1 HR2.out.2.1 (by decide) _
  have hl4 : GOw W4 w0.heap.size (.slice A3 n3 c3) (mrkL t o g 7 8 L) := by rw [hW4]; exact own_set_obj HR2.out.1 HR2.out.2.1 (by decide) _
  have hg4 : Gr w0 W4 := by rw [hW4]; exact HR2.out.2.2.2.2.setCell HB0.out.2.1 _
  rw [← hW4]
  clear hW4 q3 f3
  have HEW := Lib.hid (he4)
  have HLW := Lib.hid (hl4)
  have HGW := Lib.hid (hg4)
  go_wp2_with (first | (refine wpList_load_row rfl 38 (.tmp 3) rfl S rfl 38 (fsc 7 m (.slice A1 n1 c1) (.slice A3 n3 c3) has st top false) (0, 0) _ hs4 Try.underlying38 rfl sinfo ?_) | (refine wpList_store_row rfl 38 (.tmp 4) (.tmp 83) rfl R (fsc 7 m (.slice A1 n1 c1) (.slice A3 n3 c3) has st top false) rfl rfl 38 _ hz4 sinfo rfl (fsc_ones _ _ _ _ _ _ _ _ _ _ _ _) ?_))
  have HZF := Lib.hid (setRow_heap W4 R _ (fsc 7 m (.slice A1 n1 c1) (.slice A3 n3 c3) has st top false) 38 _ hz4)
  have HF := Lib.hid (fin_rows ((fsc 7 m (.slice A1 n1 c1) (.slice A3 n3 c3) has st top false)) hz4 HGW.out HB0.out.2.2.1 HEW.out HLW.out)
  clear hs4 hz4
  go_wp2_with fail
  exact bodyPost_ret (results_cell_row Try.results23 _ _ R 38 (fsc 7 m (.slice A1 n1 c1) (.slice A3 n3 c3) has st top false) (0, 0) _ rfl HZF.out Try.underlying38 rfl sinfo) rfl ⟨_, rfl, ⟨_, _, rfl, HF.out.1, HF.out.2.1⟩, HF.out.2.2⟩
set_option maxRecDepth 100000 in
set_option maxHeartbeats 4000000 in
theorem done7n_any (t : TX) (A : Option Addr) (n c : Nat) (o : TO) (g : TG) (m : Int) (A1 A2 : Option Addr) (n1 c1 n2 c2 : Nat) (E : List ByteArray) (L : List TG) (has : Bool) (st : Nat) (top : TG) (hk : ¬ o.kind = 8) (w0 w : World) (h0 : Gr w0 w) (he : SO w w0.heap.size (.slice A1 n1 c1) E) (hl : GOw w w0.heap.size (.slice A2 n2 c2) L) (hft : FitD E L o) :
    Calls Try.prog 23 #[.agg (decs t (.slice A n c) o g), .agg (fsc 7 m (.slice A1 n1 c1) (.slice A2 n2 c2) has st top true)] w fun e w' => RetD w0 ⟨7, m, E, mrkL t o g 7 8 L, has, st, top, true⟩ e w' := by
  obtain ⟨W1, hW1, hg1, hb1⟩ := fdbox w t (.slice A n c) o g
  obtain ⟨W2, hW2, hg2, hs2⟩ : ∃ W, W = W1.alloc (.cells (fsc 7 m (.slice A1 n1 c1) (.slice A2 n2 c2) has st top true) 38) ∧ Gr W1 W ∧ W.heap[W1.heap.size]? = some (.cells (fsc 7 m (.slice A1 n1 c1) (.slice A2 n2 c2) has st top true) 38 (0, 0)) := ⟨_, rfl, (Gr.refl _).alloc _, heap_alloc _ _ _⟩
  obtain ⟨W, hW, hg3, hz⟩ : ∃ W, W = W2.alloc (.cells (fsc 0 0 (.slice none 0 0) (.slice none 0 0) false 0 tg0 false) 38) ∧ Gr W2 W ∧ W.heap[W2.heap.size]? = some (.cells (fsc 0 0 (.slice none 0 0) (.slice none 0 0) false 0 tg0 false) 38 (0, 0)) := ⟨_, rfl, (Gr.refl _).alloc _, heap_alloc _ _ _⟩
  have e1 : W1.heap.size = w.heap.size + 1 := by rw [hW1]; simp
  have e2 : W2.heap.size = w.heap.size + 1 + 1 := by rw [hW2]; simp [e1]
  obtain ⟨D, hD⟩ : ∃ S, S = w.heap.size := ⟨_, rfl⟩
  obtain ⟨S, hS⟩ : ∃ S, S = w.heap.size + 1 := ⟨_, rfl⟩
  obtain ⟨R, hR⟩ : ∃ S, S = w.heap.size + 1 + 1 := ⟨_, rfl⟩
  rw [← hD] at hb1
  rw [e1, ← hS] at hs2
  rw [e2, ← hR] at hz
  have hb : DBox W D t (.slice A n c) o g := (hb1.gr hg2).gr hg3
  have hs := gr_obj hg3 hs2
  have hgw : Gr w W := (hg1.trans hg2).trans hg3
  have HG0 := Lib.hid (h0.trans hgw)
  have HE := Lib.hid (he.gr hgw)
  have HL := Lib.hid (hl.gr hgw)
  have HB0 : Hid (w0.heap.size ≤ W.heap.size ∧ w0.heap.size ≤ S ∧ w0.heap.size ≤ R ∧ R ≠ S) := Lib.hid (by
    have h1 := h0.size; have h2 := hgw.size
    exact ⟨by omega, by omega, by omega, by omega⟩)
  have HFT := Lib.hid hft
  have HDS : Hid (D ≠ S) := Lib.hid (by omega)
  have k0 : W.cell? ⟨S, 0, none⟩ = some (.int .i64 7) := by rw [cell_of_block hs]; rfl
  have hld : W.heap[D]? = some (.cells (decs t (.slice A n c) o g) 62 (0, 0)) := hb
  have HB := Lib.hid hb
  have HS := Lib.hid hs
  have HZ := Lib.hid hz
  rw [hW1] at hW2
  rw [hW2] at hW
  clear hg1 hg2 hg3 hb1 hs2 e1 e2 hW1 hW2 hb hs hz hgw h0 he hl hft
  have v10 : W.cell? ⟨S, 10, none⟩ = some (.bool true) := by rw [cell_of_block HS.out]; rfl
  have f10 := unfrozen_of_block HS.out 10
  obtain ⟨p0, -⟩ := HB.out.op
  obtain ⟨ok, hok⟩ : ∃ x, x = o.kind := ⟨_, rfl⟩
  rw [← hok] at p0 hk
  have b8 : (ok == 8) = false := beq_eq_false_iff_ne.2 hk
  have b9 : (ok != 8) = true := bne_iff_ne.2 hk
  clear hok
  go_enter Try.func23, Try.ntmps23
  go_upto_region 1 with (fail)
  change Code.wp Try.prog _ _ _ (((w.alloc (.cells (decs t (.slice A n c) o g) 62)).alloc (.cells (fsc 7 m (.slice A1 n1 c1) (.slice A2 n2 c2) has st top true) 38)).alloc (.cells (fsc 0 0 (.slice none 0 0) (.slice none 0 0) false 0 tg0 false) 38))
  rw [← hW, ← hR, ← hS, ← hD]
  clear hW hR hS hD
  go_upto_region 19 with (fail)
  obtain ⟨W5, hW5⟩ : ∃ X, X = W.setCell ⟨S, 10, none⟩ (.bool true) := ⟨_, rfl⟩
  have HS1 : Hid (W5.heap[S]? = some (.cells (fsc 7 m (.slice A1 n1 c1) (.slice A2 n2 c2) has st top true) 38 (0, 0))) := Lib.hid (by rw [hW5]; exact set_obj (i := 10) HS.out _)
  have HZ1 : Hid (W5.heap[R]? = some (.cells (fsc 0 0 (.slice none 0 0) (.slice none 0 0) false 0 tg0 false) 38 (0, 0))) := Lib.hid (by rw [hW5]; exact set_obj_other HZ.out HB0.out.2.2.2 _)
  have HE1 : Hid (SO W5 w0.heap.size (.slice A1 n1 c1) E) := Lib.hid (by rw [hW5]; exact own_set_obj HE.out HS.out (by decide) _)
  have HL1 : Hid (GOw W5 w0.heap.size (.slice A2 n2 c2) L) := Lib.hid (by rw [hW5]; exact own_set_obj HL.out HS.out (by decide) _)
  have HG1 : Hid (Gr w0 W5) := Lib.hid (by rw [hW5]; exact HG0.out.setCell HB0.out.2.1 _)
  have HB1 : Hid (DBox W5 D t (.slice A n c) o g) := Lib.hid (by rw [hW5]; exact set_obj_other HB.out HDS.out _)
  have HBW : Hid (w0.heap.size ≤ W5.heap.size) := Lib.hid HG1.out.size
  rw [← hW5]
  clear hW5 v10 f10 k0 hld p0
  have hB1 : w0.heap.size ≤ W5.heap.size := HBW.out
  have HMK := Lib.hid (marked_any t n c A o g (.slice A2 n2 c2) L w0.heap.size 7 8 W5 HL1.out hB1 HFT.out.live)
  have v3 : W5.cell? ⟨S, 3, none⟩ = some (.slice A2 n2 c2) := by rw [cell_of_block HS1.out]; rfl
  have hld : W5.heap[D]? = some (.cells (decs t (.slice A n c) o g) 62 (0, 0)) := HB1.out
  clear hB1
  go_wp2_with ((refine wpList_load_row rfl 62 (.tmp 2) rfl D rfl 62 (decs t (.slice A n c) o g) (0, 0) _ hld Try.underlying62 rfl dinfo ?_))
  refine HMK.out.mono ?_
  rintro e w2 ⟨vm, rfl, hrow, hob, hkp⟩
  have hne1 := own_ne_obj HL1.out HS1.out (by decide)
  have hne2 := own_ne_obj HL1.out HZ1.out (by decide)
  have hs2 := kp_obj hkp HS1.out hne1
  have hz2 := kp_obj hkp HZ1.out hne2
  have he2 : SO w2 w0.heap.size (.slice A1 n1 c1) E := own_past HE1.out HL1.out (by decide) hkp
  have hg2 : Gr w0 w2 := Below.trans HG1.out (hkp.below HBW.out (fun b hb => (World.ownsRow.lt HL1.out b hb).1))
  obtain ⟨A3, c3, hv3, -, -⟩ := own_form hrow
  obtain ⟨n3, hn3⟩ : ∃ m, m = (mrkL t o g 7 8 L).length := ⟨_, rfl⟩
  rw [← hn3] at hv3
  subst hv3
  have q3 : w2.cell? ⟨S, 3, none⟩ = some (.slice A2 n2 c2) := by rw [cell_of_block hs2]; rfl
  have f3 := unfrozen_of_block hs2 3
  have HR2 := Lib.hid (And.intro hrow (And.intro hs2 (And.intro hz2 (And.intro he2 hg2))))
  clear hrow hob hkp hne1 hne2 hs2 hz2 he2 hg2 v3 hld hn3
  go_upto_region 20 with (fail)
  obtain ⟨W4, hW4⟩ : ∃ X, X = w2.setCell ⟨S, 3, none⟩ (.slice A3 n3 c3) := ⟨_, rfl⟩
  have hs4 : W4.heap[S]? = some (.cells (fsc 7 m (.slice A1 n1 c1) (.slice A3 n3 c3) has st top true) 38 (0, 0)) := by rw [hW4]; exact set_obj (i := 3) HR2.out.2.1 _
  have hz4 : W4.heap[R]? = some (.cells (fsc 0 0 (.slice none 0 0) (.slice none 0 0) false 0 tg0 false) 38 (0, 0)) := by rw [hW4]; exact set_obj_other HR2.out.2.2.1 HB0.out.2.2.2 _
  have he4 : SO W4 w0.heap.size (.slice A1 n1 c1) E := by rw [hW4]; exact own_set_obj HR2.out.2.2.2.1 HR2.out.2.1 (by decide) _
  have hl4 : GOw W4 w0.heap.size (.slice A3 n3 c3) (mrkL t o g 7 8 L) := by rw [hW4]; exact own_set_obj HR2.out.1 HR2.out.2.1 (by decide) _
  have hg4 : Gr w0 W4 := by rw [hW4]; exact HR2.out.2.2.2.2.setCell HB0.out.2.1 _
  rw [← hW4]
  clear hW4 q3 f3
  have HEW := Lib.hid (he4)
  have HLW := Lib.hid (hl4)
  have HGW := Lib.hid (hg4)
  go_wp2_with (first | (refine wpList_load_row rfl 38 (.tmp 3) rfl S rfl 38 (fsc 7 m (.slice A1 n1 c1) (.slice A3 n3 c3) has st top true) (0, 0) _ hs4 Try.underlying38 rfl sinfo ?_) | (refine wpList_store_row rfl 38 (.tmp 4) (.tmp 83) rfl R (fsc 7 m (.slice A1 n1 c1) (.slice A3 n3 c3) has st top true) rfl rfl 38 _ hz4 sinfo rfl (fsc_ones _ _ _ _ _ _ _ _ _ _ _ _) ?_))
  have HZF := Lib.hid (setRow_heap W4 R _ (fsc 7 m (.slice A1 n1 c1) (.slice A3 n3 c3) has st top true) 38 _ hz4)
  have HF := Lib.hid (fin_rows ((fsc 7 m (.slice A1 n1 c1) (.slice A3 n3 c3) has st top true)) hz4 HGW.out HB0.out.2.2.1 HEW.out HLW.out)
  clear hs4 hz4
  go_wp2_with fail
  exact bodyPost_ret (results_cell_row Try.results23 _ _ R 38 (fsc 7 m (.slice A1 n1 c1) (.slice A3 n3 c3) has st top true) (0, 0) _ rfl HZF.out Try.underlying38 rfl sinfo) rfl ⟨_, rfl, ⟨_, _, rfl, HF.out.1, HF.out.2.1⟩, HF.out.2.2⟩
end Go.Proofs.Ytlihcjlonafohaa
/- Walks: elems, rising, firm, last of fold. Written by wip/tools/genfoq.py. -/
namespace Go.Proofs.Ytlihcjlonafohaa
open Go.RowKit Go.Joins
set_option linter.unusedSimpArgs false
set_option linter.unusedVariables false

def elemsG (L : List TG) : List ByteArray := L.map TG.e
theorem gv_form {w : World} {v : Value} {L : List TG} (h : GV w v L) : ∃ A n c, v = .slice A n c := by
  obtain ⟨A, c, hv, _⟩ := h
  exact ⟨A, _, c, hv⟩
theorem sv_form3 {w : World} {v : Value} {L : List ByteArray} (h : SV w v L) : ∃ A n c, v = .slice A n c := by
  obtain ⟨A, c, hv, _⟩ := h
  exact ⟨A, _, c, hv⟩
theorem elemsG_len (L : List TG) : (elemsG L).length = L.length := List.length_map _
set_option maxRecDepth 100000 in
set_option maxHeartbeats 4000000 in
theorem elemsF_any (v : Value) (L : List TG) (w : World) (h : GV w v L) (hlen : L.length ≤ 1000000) :
    Calls Try.prog 25 #[v] w fun e w' => RetStrsV (elemsG L) w e w' := by
  obtain ⟨A, c, hvf, hnc, ⟨hcm, -⟩, hat⟩ := h
  subst hvf
  have HAT : Hid (∀ j (hj : j < L.length), ∃ b off, A = some ⟨b, off, none⟩ ∧ TGc w b (off + j * 4) L[j]) := Lib.hid hat
  obtain ⟨n, hn⟩ : ∃ n, n = L.length := ⟨_, rfl⟩
  have HN := Lib.hid hn
  rw [← hn] at hnc hlen ⊢
  obtain ⟨W1, hmk, hso, hg1⟩ := make_strs n (by omega) w
  have HSO : Hid (SO W1 w.heap.size (.slice (some ⟨w.heap.size, 0, none⟩) n n) (fillE (elemsG L) 0)) := Lib.hid (by rw [fillE_zero, elemsG_len, ← HN.out]; exact hso)
  have HG1 := Lib.hid hg1
  clear hat hn hso hg1 hcm
  go_enter Try.func25, Try.ntmps25
  go_wp2_with fail
  clear hmk
  go_loopw [11] (fun i wr => ∃ j : Nat, j ≤ n ∧ i = .int .i64 j ∧ Hid (SO wr w.heap.size (.slice (some ⟨w.heap.size, 0, none⟩) n n) (fillE (elemsG L) j) ∧ Gr w wr)) (fun i _ => n - (intOf i).toNat)
  case atStart => exact ⟨0, Nat.zero_le _, rfl, Lib.hid ⟨HSO.out, HG1.out⟩⟩
  case round =>
    obtain ⟨j, hj, rfl, hst⟩ := hrel
    rename World => wr
    by_cases hjn : j < n
    · have hj0 : (0 : Int) ≤ (j : Int) := Int.natCast_nonneg _
      have hjn1 : (j : Int) < (n : Int) := by omega
      have hjl : j < L.length := by rw [← HN.out]; exact hjn
      obtain ⟨b, off, hA, hc0⟩ := HAT.out j hjl
      subst hA
      obtain ⟨x, hx⟩ : ∃ x, x = L[j] := ⟨_, rfl⟩
      rw [← hx] at hc0
      obtain ⟨a0, a1, a2, a3⟩ := hc0.gr hst.out.2
      obtain ⟨W5, hW5, hg5, y0, y1, y2, y3⟩ := tgbox wr x
      have hel : x.e = (elemsG L)[j]'(by rw [elemsG_len]; exact hjl) := by
        unfold elemsG
        rw [List.getElem_map, hx]
      have HNX : Hid ((fillE (elemsG L) j).set j x.e = fillE (elemsG L) (j + 1)) := Lib.hid (by rw [hel]; exact fillE_next (by rw [elemsG_len]; exact hjl))
      have HLE : Hid (j < (fillE (elemsG L) j).length) := Lib.hid (by rw [fillE_len _ (by rw [elemsG_len]; omega), elemsG_len]; exact hjl)
      have HST5 : Hid (SO W5 w.heap.size (.slice (some ⟨w.heap.size, 0, none⟩) n n) (fillE (elemsG L) j) ∧ Gr w W5) := Lib.hid ⟨hst.out.1.gr hg5, hst.out.2.trans hg5⟩
      obtain ⟨u, hu⟩ : ∃ u, u = (fillE (elemsG L) j)[j]'HLE.out := ⟨_, rfl⟩
      have q0 := HST5.out.1.atV HLE.out
      rw [← hu] at q0
      have k0 := HST5.out.1.freeV j
      clear hc0 hst hx hel hg5 hu
      go_upto_region 5 with (fail)
      change Code.wp Try.prog _ _ _ (wr.alloc (.cells (tgv x) 36))
      rw [← hW5]
      clear hW5 a0 a1 a2 a3
      have HS6 : Hid (SO (W5.setCell ⟨w.heap.size, j, none⟩ (.string x.e)) w.heap.size (.slice (some ⟨w.heap.size, 0, none⟩) n n) (fillE (elemsG L) (j + 1)) ∧ Gr w (W5.setCell ⟨w.heap.size, j, none⟩ (.string x.e))) := Lib.hid ⟨by rw [← HNX.out]; exact HST5.out.1.setV HLE.out x.e, HST5.out.2.setCell (Nat.le_refl _) _⟩
      go_wp2_with fail
      go_roundw
      case measure => simp [intOf]; omega
      case rel => exact ⟨j + 1, by omega, by go_num, HS6⟩
    · obtain rfl : j = n := by omega
      have ho := hst.out.1
      have e1 : fillE (elemsG L) j = elemsG L := by
        have := fillE_all (elemsG L)
        rw [elemsG_len, ← HN.out] at this
        exact this
      rw [e1] at ho
      have HO := Lib.hid (And.intro ho hst.out.2)
      clear hst ho e1
      go_wp2_with fail
      go_ret
      exact ⟨_, rfl, HO.out.1, HO.out.2⟩
set_option maxRecDepth 100000 in
set_option maxHeartbeats 4000000 in
theorem risingF_any (v : Value) (T : List ByteArray) (w : World) (h : SV w v T) (hlen : T.length ≤ 1000000) (hs : ∀ x ∈ T, x.size ≤ 281474976710656) :
    Calls Try.prog 24 #[v] w fun e w' => RetStrsV (riseT T) w e w' := by
  have HL := Lib.hid hs
  have HCN := Lib.hid (sclonesV_any v T w h (by omega))
  obtain ⟨A, c, hvf, -⟩ := h
  subst hvf
  obtain ⟨n, hn⟩ : ∃ n, n = T.length := ⟨_, rfl⟩
  rw [← hn] at HCN hlen ⊢
  have HN := Lib.hid hn
  clear hn hs
  go_enter Try.func24, Try.ntmps24
  go_wp2_with fail
  refine HCN.out.mono ?_
  rintro e w1 ⟨v1, rfl, ho1, g1⟩
  have HSR := Lib.hid (sortS_any _ _ _ _ ho1 (by rw [← HN.out]; omega))
  have HBK1 : Hid (∀ q, v1.ownBlock = some q → w.heap.size ≤ q) := Lib.hid (fun q hq => (World.ownsRow.lt (h := ho1) q hq).1)
  obtain ⟨A1, c1, hv1, -, -⟩ := own_form ho1
  rw [← HN.out] at hv1
  subst hv1
  have HG1 := Lib.hid g1
  clear ho1 g1
  go_wp2_with fail
  refine HSR.out.mono ?_
  rintro e w2 ⟨rfl, ho2, k2⟩
  have HG2 := Lib.hid (Kp.gr_of HG1.out k2 HBK1.out)
  have HCR := Lib.hid (compS_any _ _ _ _ ho2 (by rw [sortT_len, ← HN.out]; omega))
  clear k2 ho2
  go_wp2_with fail
  refine HCR.out.mono ?_
  rintro e w3 ⟨v3, rfl, ho3, hb3, k3⟩
  have HG3 := Lib.hid (Kp.gr_of HG2.out k3 HBK1.out)
  rw [compT_sort] at ho3
  have HCP := Lib.hid (copiesF_any v3 _ w3 ho3.sv (by have := riseT_len T; rw [← HN.out] at this; omega) (fun s hsm => HL.out s (mem_riseT.1 hsm)))
  obtain ⟨A3, c3, hs3, -, -⟩ := own_form ho3
  subst hs3
  obtain ⟨m3, hm3⟩ : ∃ m, m = (riseT T).length := ⟨_, rfl⟩
  rw [← hm3] at HCP ⊢
  clear k3 ho3 hb3 hm3
  go_wp2_with fail
  refine HCP.out.mono ?_
  rintro e w4 ⟨v4, rfl, ho4, g4⟩
  have HO4 := Lib.hid ho4
  obtain ⟨A4, c4, hs4, -, -⟩ := own_form ho4
  subst hs4
  clear ho4
  obtain ⟨m4, hm4⟩ : ∃ m, m = (riseT T).length := ⟨_, rfl⟩
  rw [← hm4] at HO4 ⊢
  clear hm4
  go_wp2_with fail
  go_ret
  exact ⟨_, rfl, HO4.out.le HG3.out.size, HG3.out.trans g4⟩
set_option maxRecDepth 100000 in
theorem firmF1_any (s : ByteArray) (a : Nat) (v : Value) (G : List ByteArray) (w : World) (ha : w.cell? ⟨a, 0, none⟩ = some v) (hv : SV w v G) (hr : RisingS G) (hlen : G.length < 4611686018427387904) :
    Calls Try.prog 42 #[.string s, .pointer (some ⟨a, 0, none⟩)] w fun e w' => e = .returned (.bool (memS G s)) ∧ Gr w w' := by
  have HB := Lib.hid (binS_any v G s w hv hr hlen)
  obtain ⟨A, c, hva, -⟩ := hv
  subst hva
  obtain ⟨n, hn⟩ : ∃ n, n = G.length := ⟨_, rfl⟩
  rw [← hn] at HB ha
  clear hr hlen hn
  go_enter Try.func42, Try.ntmps42
  go_wp2_with fail
  refine HB.out.mono ?_
  rintro e w1 ⟨i, rfl, g1⟩
  go_wp2_with fail
  go_ret
  exact ⟨rfl, g1⟩
/-- A Firm state's elements. -/
def firmS (E : List ByteArray) (L : List TG) : List ByteArray := (riseT E).filter fun s => !memS (riseT (elemsG L)) s
theorem egFirmF : ∀ args w, (callFunc 42 args).run Try.prog w = .ok (.enter 42 args) w := fun args w => by kernel_rfl
set_option maxRecDepth 100000 in
set_option maxHeartbeats 4000000 in
theorem firmF_any (k m : Int) (ve vl : Value) (E : List ByteArray) (L : List TG) (has : Bool) (st : Nat) (top : TG) (df : Bool) (w : World) (he : SV w ve E) (hl : GV w vl L) (hft : FitR ⟨k, m, E, L, has, st, top, df⟩) :
    Calls Try.prog 26 #[.agg (fsc k m ve vl has st top df)] w fun e w' => RetStrsV (firmS E L) w e w' := by
  obtain ⟨A1, n1, c1, rfl⟩ := sv_form3 he
  obtain ⟨A2, n2, c2, rfl⟩ := gv_form hl
  obtain ⟨W1, hW1, hg1, hs1⟩ : ∃ W, W = w.alloc (.cells (fsc k m (.slice A1 n1 c1) (.slice A2 n2 c2) has st top df) 38) ∧ Gr w W ∧ W.heap[w.heap.size]? = some (.cells (fsc k m (.slice A1 n1 c1) (.slice A2 n2 c2) has st top df) 38 (0, 0)) := ⟨_, rfl, (Gr.refl _).alloc _, heap_alloc _ _ _⟩
  obtain ⟨S, hS⟩ : ∃ S, S = w.heap.size := ⟨_, rfl⟩
  rw [← hS] at hs1
  have HS := Lib.hid hs1
  have HG1 := Lib.hid hg1
  have HEL := Lib.hid (elemsF_any _ L W1 (hl.gr hg1) hft.live)
  have HRI := Lib.hid (fun (v : Value) (T : List ByteArray) (w1 : World) (h : SV w1 v T) (hle : T.length ≤ 1000000) (hz : ∀ x ∈ T, x.size ≤ 281474976710656) => risingF_any v T w1 h hle hz)
  have HEV := Lib.hid (fun w1 (g : Gr W1 w1) => (he.gr hg1).gr g)
  have HFT := Lib.hid hft
  have p3 : W1.cell? ⟨S, 3, none⟩ = some (.slice A2 n2 c2) := by rw [cell_of_block hs1]; rfl
  clear hg1 he hl hft hs1
  go_enter Try.func26, Try.ntmps26
  go_upto_region 1 with (fail)
  change Code.wp Try.prog _ _ _ (w.alloc (.cells (fsc k m (.slice A1 n1 c1) (.slice A2 n2 c2) has st top df) 38))
  rw [← hW1, ← hS]
  clear hW1 hS
  go_wp2_with fail
  refine HEL.out.mono ?_
  rintro e w2 ⟨s1, rfl, ho1, g1⟩
  have HR1 := Lib.hid (HRI.out s1 _ w2 ho1.sv (by rw [elemsG_len]; exact HFT.out.live) (fun x hx => by
    obtain ⟨t, ht, rfl⟩ := List.mem_map.1 hx
    exact HFT.out.tz t ht))
  obtain ⟨A3, c3, hs3, -, -⟩ := own_form ho1
  subst hs3
  obtain ⟨m1, hm1⟩ : ∃ m, m = (elemsG L).length := ⟨_, rfl⟩
  rw [← hm1] at HR1 ⊢
  have HG2 := Lib.hid g1
  clear ho1 g1 hm1 p3
  go_wp2_with fail
  refine HR1.out.mono ?_
  rintro e w3 ⟨s2, rfl, ho2, g2⟩
  obtain ⟨G, hG⟩ : ∃ G, G = riseT (elemsG L) := ⟨_, rfl⟩
  rw [← hG] at ho2
  have HGG := Lib.hid hG
  have hrG : RisingS G := by rw [hG]; exact riseT_rising _
  have hlG : G.length ≤ 1000000 := by
    rw [hG]
    have h1 := riseT_len (elemsG L)
    rw [elemsG_len] at h1
    have h2 : L.length ≤ 1000000 := HFT.out.live
    omega
  have HRG := Lib.hid (And.intro hrG hlG)
  have HO2 := Lib.hid ho2
  obtain ⟨A4, c4, hs4, -, -⟩ := own_form ho2
  subst hs4
  obtain ⟨m2, hm2⟩ : ∃ m, m = G.length := ⟨_, rfl⟩
  rw [← hm2] at HO2 ⊢
  obtain ⟨W, hW, hg, hc, hsz⟩ : ∃ W, W = w3.alloc (.cells #[.slice A4 m2 c4] 33) ∧ Gr w3 W ∧ W.cell? ⟨w3.heap.size, 0, none⟩ = some (.slice A4 m2 c4) ∧ W.heap.size = w3.heap.size + 1 := by
    refine ⟨_, rfl, (Gr.refl _).alloc _, ?_, ?_⟩
    · rw [cell_of_block (heap_alloc w3 #[.slice A4 m2 c4] 33)]
      rfl
    · simp
  have hgW : Gr W1 W := (HG2.out.trans g2).trans hg
  have HGW := Lib.hid hgW
  have HOW : Hid (SO W w2.heap.size (.slice A4 m2 c4) G) := Lib.hid (HO2.out.gr hg)
  have HBL : Hid (∀ b, (Value.slice A4 m2 c4).ownBlock = some b → b < w3.heap.size) := Lib.hid (fun b hb => (World.ownsRow.lt (h := HO2.out) b hb).2)
  have HC := Lib.hid hc
  have HSZ := Lib.hid hsz
  have hsW := gr_obj hgW HS.out
  have p2 : W.cell? ⟨S, 2, none⟩ = some (.slice A1 n1 c1) := by rw [cell_of_block hsW]; rfl
  have HR4 := Lib.hid (HRI.out _ _ W (HEV.out W hgW) HFT.out.ever HFT.out.sz)
  clear ho2 g2 hG hrG hlG hm2 hg hc hsz hgW hsW
  go_upto_region 2 with (fail)
  rw [← hW]
  clear hW
  go_wp2_with fail
  refine HR4.out.mono ?_
  rintro e w5 ⟨s5, rfl, ho5, g5⟩
  obtain ⟨F, hF⟩ : ∃ F, F = riseT E := ⟨_, rfl⟩
  have ho5 : SO w5 W.heap.size s5 (riseT E) := ho5
  rw [← hF] at ho5
  have HP : Hid (PrS 42 w3.heap.size W.heap.size (memS G) (fun x => x.cell? ⟨w3.heap.size, 0, none⟩ = some (.slice A4 m2 c4) ∧ SO x w2.heap.size (.slice A4 m2 c4) G) F) := Lib.hid (by
    refine ⟨fun x x' g hc hk hg => ?_, fun x x' hc hk => ⟨hk.cell hc.1, hc.2.gr hk⟩, fun s _ x hc => firmF1_any s w3.heap.size _ G x hc.1 hc.2.sv HRG.out.1 (by have := HRG.out.2; omega), egFirmF⟩
    have h5 := HSZ.out
    refine ⟨hk.cellNe hc.1 ?_, World.ownsRow.kept hc.2 hk ?_⟩
    · show w3.heap.size ≠ g
      omega
    · cases hb : (Value.slice A4 m2 c4).ownBlock with
      | none => exact .inl rfl
      | some b =>
        refine .inr fun e => ?_
        have := HBL.out b hb
        injection e with e
        omega)
  have HDL := Lib.hid (delS_any s5 F 42 w3.heap.size W.heap.size (memS G) _ w5 ho5 HP.out ⟨g5.cell HC.out, HOW.out.gr g5⟩)
  have HBS : Hid (∀ b, s5.ownBlock = some b → w.heap.size ≤ b) := Lib.hid (fun b hb => by
    have h1 := (World.ownsRow.lt (h := ho5) b hb).1
    have h2 := HGW.out.size
    have h3 := HG1.out.size
    omega)
  have HG5 := Lib.hid ((HG1.out.trans HGW.out).trans g5)
  obtain ⟨A5, c5, hs5, -, -⟩ := own_form ho5
  subst hs5
  have HEE : Hid (F.filter (fun s => !memS G s) = firmS E L) := Lib.hid (by rw [hF, HGG.out]; rfl)
  have HWS : Hid (w.heap.size ≤ W.heap.size) := Lib.hid (HG1.out.trans HGW.out).size
  obtain ⟨m5, hm5⟩ : ∃ m, m = F.length := ⟨_, rfl⟩
  rw [← hm5] at HDL HBS ⊢
  clear ho5 g5 hF hm5 p2
  go_wp2_with fail
  refine HDL.out.mono ?_
  rintro e w6 ⟨v6, rfl, ho6, hb6, k6⟩
  rw [HEE.out] at ho6
  have HO6 := Lib.hid ho6
  have HG6 := Lib.hid (Kp.gr_of HG5.out k6 HBS.out)
  obtain ⟨A6, c6, hs6, -, -⟩ := own_form ho6
  subst hs6
  obtain ⟨m6, hm6⟩ : ∃ m, m = (firmS E L).length := ⟨_, rfl⟩
  rw [← hm6] at HO6 ⊢
  clear ho6 hb6 k6 hm6
  go_wp2_with fail
  go_ret
  exact ⟨_, rfl, HO6.out.le HWS.out, HG6.out⟩
def lastS1 (has : Bool) (top : TG) : List ByteArray := if has then [top.e] else []
set_option maxRecDepth 100000 in
set_option maxHeartbeats 4000000 in
theorem lastF_any (k m : Int) (A1 A2 : Option Addr) (n1 c1 n2 c2 : Nat) (has : Bool) (st : Nat) (top : TG) (df : Bool) (w : World) (hz : top.e.size ≤ 281474976710656) :
    Calls Try.prog 27 #[.agg (fsc k m (.slice A1 n1 c1) (.slice A2 n2 c2) has st top df)] w fun e w' => RetStrsV (lastS1 has top) w e w' := by
  obtain ⟨W1, hW1, hg1, hs1⟩ : ∃ W, W = w.alloc (.cells (fsc k m (.slice A1 n1 c1) (.slice A2 n2 c2) has st top df) 38) ∧ Gr w W ∧ W.heap[w.heap.size]? = some (.cells (fsc k m (.slice A1 n1 c1) (.slice A2 n2 c2) has st top df) 38 (0, 0)) := ⟨_, rfl, (Gr.refl _).alloc _, heap_alloc _ _ _⟩
  obtain ⟨S, hS⟩ : ∃ S, S = w.heap.size := ⟨_, rfl⟩
  rw [← hS] at hs1
  have HG1 := Lib.hid hg1
  have p4 : W1.cell? ⟨S, 4, none⟩ = some (.bool has) := by rw [cell_of_block hs1]; rfl
  have p9 : W1.cell? ⟨S, 9, none⟩ = some (.string top.e) := by rw [cell_of_block hs1]; rfl
  cases has with
  | false =>
    clear hg1 hs1
    go_enter Try.func27, Try.ntmps27
    go_upto_region 1 with (fail)
    change Code.wp Try.prog _ _ _ (w.alloc (.cells (fsc k m (.slice A1 n1 c1) (.slice A2 n2 c2) false st top df) 38))
    rw [← hW1, ← hS]
    clear hW1 hS
    go_wp2_with fail
    go_ret
    exact ⟨_, rfl, SO.nil _ _, HG1.out⟩
  | true =>
    obtain ⟨W2, hW2, g2, hs2⟩ : ∃ W, W = W1.alloc (.cells #[.string top.e] 9) ∧ Gr W1 W ∧ SV W (.slice (some ⟨W1.heap.size, 0, none⟩) 1 1) [top.e] := ⟨_, rfl, (Gr.refl _).alloc _, sv_one W1 top.e⟩
    have HCP := Lib.hid (copiesF_any (.slice (some ⟨W1.heap.size, 0, none⟩) 1 1) [top.e] W2 hs2 (by simp) (fun x hx => by rw [List.mem_singleton.1 hx]; exact hz))
    have HG2 := Lib.hid (HG1.out.trans g2)
    rw [hW2] at HCP HG2
    clear hg1 hs1 g2 hs2 hW2
    go_enter Try.func27, Try.ntmps27
    go_upto_region 1 with (fail)
    change Code.wp Try.prog _ _ _ (w.alloc (.cells (fsc k m (.slice A1 n1 c1) (.slice A2 n2 c2) true st top df) 38))
    rw [← hW1, ← hS]
    clear hW1 hS
    go_wp2_with fail
    refine HCP.out.mono ?_
    rintro e w4 ⟨v4, rfl, ho4, g4⟩
    have HO4 := Lib.hid ho4
    obtain ⟨A4, c4, hs4, -, -⟩ := own_form ho4
    subst hs4
    clear ho4
    go_wp2_with fail
    go_ret
    exact ⟨_, rfl, HO4.out.le HG2.out.size, HG2.out.trans g4⟩
end Go.Proofs.Ytlihcjlonafohaa
