/- Walks: the value of a counter at a closed cut of logs that may be; the law's awake. Walks: valueOf of each kind. Written by wip/tools/genvo.py. -/
import Derived.Test.YtnjmgknicffcbaaGreatDoorZr18
import Derived.Test.YtnjmgknicffcbaaGreatDoorZr14
import Derived.Test.YtnjmgknicffcbaaGreatDoorZr11
import Derived.Test.YtnjmgknicffcbaaGreatDoorZr26
namespace Go.Proofs.YtnjmgknicffcbaaGreatDoor
open Go.RowKit Go.Joins

abbrev valv (n : Int) : Array Value := #[.int .i64 n, .slice none 0 0, .bool false]
theorem valbox (w : World) : ∃ W, W = w.alloc (.cells (valv 0) 95) ∧ Gr w W ∧ W.heap[w.heap.size]? = some (.cells (valv 0) 95 (0, 0)) := ⟨_, rfl, (Gr.refl w).alloc _, heap_alloc _ _ _⟩
/-- What a counter's operations add. -/
def opAt (t : TX) (i : Nat) : TO := t.ops.getD i ⟨0, ⟨#[]⟩, ⟨#[]⟩, 0⟩
theorem boxesVa (u : Nat → S3) (v : Nat → Nat) (w : World) : ∃ W, W = ((w.alloc (.cells (lcells u) 25)).alloc (.cells (vcells v) 28)).alloc (.cells (valv 0) 95) ∧ Gr w W ∧
    LBox W w.heap.size u ∧ VBox W (w.heap.size + 1) v ∧ W.heap[w.heap.size + 1 + 1]? = some (.cells (valv 0) 95 (0, 0)) := by
  obtain ⟨W, hW, hg, hs, hL, hV⟩ := boxesLV u v w
  rw [← hW]
  have h1 := heap_alloc W (valv 0) 95
  rw [hs] at h1
  exact ⟨_, rfl, hg.alloc _, hL.gr ((Gr.refl _).alloc _), hV.gr ((Gr.refl _).alloc _), h1⟩

end Go.Proofs.YtnjmgknicffcbaaGreatDoor
namespace Go.Proofs.YtnjmgknicffcbaaGreatDoor
open Go.RowKit Go.Joins
set_option linter.unusedSimpArgs false
set_option linter.unusedVariables false

/-- A key's value. -/
structure VR where
  n : Int
  e : List ByteArray
  on : Bool
/-- What the deeds make of a key of this kind. -/
def valR (kind start : Int) (D : List DD) : VR :=
  if kind = 1 ∨ kind = 2 then ⟨wrap64 (totD start D), [], false⟩
  else if kind = 3 ∨ kind = 8 then ⟨0, riseT (elemsD (unsL 4 5 D)), false⟩
  else if kind = 4 then ⟨0, firmL D, false⟩
  else if kind = 5 then ⟨0, lastL D, false⟩
  else if kind = 6 then ⟨0, riseT (elemsD (unsL 6 6 D)), false⟩
  else ⟨0, [], onB start D⟩
def RetVal (r : VR) (w : World) (e : Ending) (w' : World) : Prop := ∃ ve, e = .returned (.agg #[.int .i64 r.n, ve, .bool r.on]) ∧ SO w' w.heap.size ve r.e ∧ Gr w w'
theorem SO.set3 {w : World} {B b : Nat} {v : Value} {E : List ByteArray} (h : SO w B v E) (hb : b < B) (x y z : Value) : SO (((w.setCell ⟨b, 0, none⟩ x).setCell ⟨b, 1, none⟩ y).setCell ⟨b, 2, none⟩ z) B v E :=
  World.ownsRow.kept h ((((Kp.refl (some b) w).set (.inr rfl) _ _).set (.inr rfl) _ _).set (.inr rfl) _ _) (.inr fun e => own_far h hb e.symm)
theorem about_fit {D : List DD} (hs : ∀ d ∈ D, d.op.elem.size ≤ 281474976710656) : ∀ d ∈ D, (aboutT d.op).size ≤ maxLen := fun d hd => by
  have := hs d hd
  unfold aboutT
  split
  · exact Nat.zero_le _
  · unfold maxLen; omega

set_option maxRecDepth 100000 in
set_option maxHeartbeats 4000000 in
theorem valueOfK1 (start : Int) (v : Value) (D : List DD) (w : World) (h : DV w v D) (hx : DXs w D) (hlen : D.length ≤ 65536) (hs : ∀ d ∈ D, d.op.elem.size ≤ 281474976710656) (hb : wrap64 start = start) :
    Calls Tryz.prog 162 #[.int .i64 1, .int .i64 start, v] w fun e w' => RetVal (valR 1 start D) w e w' := by
  obtain ⟨W, hW, hg, hz⟩ := valbox w
  have HS : Hid (w.heap.size < W.heap.size) := Lib.hid (by rw [hW]; simp)
  have HT := Lib.hid (fun w1 (g : Gr W w1) => total_any start v D w1 ((h.gr hg).gr g) ((hx.gr hg).gr g) hlen hb)
  have HE : Hid (valR 1 start D = ⟨wrap64 (totD start D), [], false⟩) := Lib.hid rfl
  obtain ⟨x, hxx⟩ : ∃ x, x = wrap64 (totD start D) := ⟨_, rfl⟩
  rw [← hxx] at HT HE
  clear hxx
  obtain ⟨A, c, rfl⟩ := dv_form h
  obtain ⟨n, hn⟩ : ∃ n, n = D.length := ⟨_, rfl⟩
  rw [← hn] at HT
  rw [← hn]
  have HZ := Lib.hid hz
  have HG := Lib.hid hg
  clear h hx hlen hs hb hn hg hz
  go_enter Tryz.func162, Tryz.ntmps162
  go_upto_region 1 with (fail)
  rw [← hW]
  clear hW
  go_wp2_with fail
  refine (HT.out _ (Gr.refl _)).mono ?_
  rintro e w2 ⟨rfl, g2⟩
  have hz2 := gr_obj g2 HZ.out
  have z0 : w2.cell? ⟨w.heap.size, 0, none⟩ = some (.int .i64 0) := by rw [cell_of_block hz2]; rfl
  have z1 : w2.cell? ⟨w.heap.size, 1, none⟩ = some (.slice none 0 0) := by rw [cell_of_block hz2]; rfl
  have z2 : w2.cell? ⟨w.heap.size, 2, none⟩ = some (.bool false) := by rw [cell_of_block hz2]; rfl
  have k0 := unfrozen_of_block hz2 0
  have k1 := unfrozen_of_block hz2 1
  have k2 := unfrozen_of_block hz2 2
  have HG2 := Lib.hid (HG.out.trans g2)
  have HSZ : Hid (w.heap.size < W.heap.size) := Lib.hid HS.out
  clear g2 hz2
  go_wp2_with fail
  rw [HE.out]
  refine bodyPost_ret (v := .agg #[.int .i64 x, .slice none 0 0, .bool false]) (by simp [results, Tryz.results162, go_sem, *]) rfl ⟨_, rfl, SO.nil _ _, ?_⟩
  show Gr w (((w2.setCell _ _).setCell _ _).setCell _ _)
  exact ((HG2.out.setCell (Nat.le_refl _) _).setCell (Nat.le_refl _) _).setCell (Nat.le_refl _) _

set_option maxRecDepth 100000 in
set_option maxHeartbeats 4000000 in
theorem valueOfK2 (start : Int) (v : Value) (D : List DD) (w : World) (h : DV w v D) (hx : DXs w D) (hlen : D.length ≤ 65536) (hs : ∀ d ∈ D, d.op.elem.size ≤ 281474976710656) (hb : wrap64 start = start) :
    Calls Tryz.prog 162 #[.int .i64 2, .int .i64 start, v] w fun e w' => RetVal (valR 2 start D) w e w' := by
  obtain ⟨W, hW, hg, hz⟩ := valbox w
  have HS : Hid (w.heap.size < W.heap.size) := Lib.hid (by rw [hW]; simp)
  have HT := Lib.hid (fun w1 (g : Gr W w1) => total_any start v D w1 ((h.gr hg).gr g) ((hx.gr hg).gr g) hlen hb)
  have HE : Hid (valR 2 start D = ⟨wrap64 (totD start D), [], false⟩) := Lib.hid rfl
  obtain ⟨x, hxx⟩ : ∃ x, x = wrap64 (totD start D) := ⟨_, rfl⟩
  rw [← hxx] at HT HE
  clear hxx
  obtain ⟨A, c, rfl⟩ := dv_form h
  obtain ⟨n, hn⟩ : ∃ n, n = D.length := ⟨_, rfl⟩
  rw [← hn] at HT
  rw [← hn]
  have HZ := Lib.hid hz
  have HG := Lib.hid hg
  clear h hx hlen hs hb hn hg hz
  go_enter Tryz.func162, Tryz.ntmps162
  go_upto_region 1 with (fail)
  rw [← hW]
  clear hW
  go_wp2_with fail
  refine (HT.out _ (Gr.refl _)).mono ?_
  rintro e w2 ⟨rfl, g2⟩
  have hz2 := gr_obj g2 HZ.out
  have z0 : w2.cell? ⟨w.heap.size, 0, none⟩ = some (.int .i64 0) := by rw [cell_of_block hz2]; rfl
  have z1 : w2.cell? ⟨w.heap.size, 1, none⟩ = some (.slice none 0 0) := by rw [cell_of_block hz2]; rfl
  have z2 : w2.cell? ⟨w.heap.size, 2, none⟩ = some (.bool false) := by rw [cell_of_block hz2]; rfl
  have k0 := unfrozen_of_block hz2 0
  have k1 := unfrozen_of_block hz2 1
  have k2 := unfrozen_of_block hz2 2
  have HG2 := Lib.hid (HG.out.trans g2)
  have HSZ : Hid (w.heap.size < W.heap.size) := Lib.hid HS.out
  clear g2 hz2
  go_wp2_with fail
  rw [HE.out]
  refine bodyPost_ret (v := .agg #[.int .i64 x, .slice none 0 0, .bool false]) (by simp [results, Tryz.results162, go_sem, *]) rfl ⟨_, rfl, SO.nil _ _, ?_⟩
  show Gr w (((w2.setCell _ _).setCell _ _).setCell _ _)
  exact ((HG2.out.setCell (Nat.le_refl _) _).setCell (Nat.le_refl _) _).setCell (Nat.le_refl _) _

set_option maxRecDepth 100000 in
set_option maxHeartbeats 4000000 in
theorem valueOfK3 (start : Int) (v : Value) (D : List DD) (w : World) (h : DV w v D) (hx : DXs w D) (hlen : D.length ≤ 65536) (hs : ∀ d ∈ D, d.op.elem.size ≤ 281474976710656) (hb : wrap64 start = start) :
    Calls Tryz.prog 162 #[.int .i64 3, .int .i64 start, v] w fun e w' => RetVal (valR 3 start D) w e w' := by
  obtain ⟨W, hW, hg, hz⟩ := valbox w
  have HS : Hid (w.heap.size < W.heap.size) := Lib.hid (by rw [hW]; simp)
  have HT := Lib.hid (fun w1 (g : Gr W w1) => unseen_any v D 4 5 w1 ((h.gr hg).gr g) ((hx.gr hg).gr g) hlen (about_fit hs))
  have HR := Lib.hid (fun (v1 : Value) (w1 : World) (h1 : DV w1 v1 (unsL 4 5 D)) (g : Gr W w1) => risingV_any v1 _ w1 h1 (fun d hd => ((hx.gr hg).gr g) d (unsL_mem hd)) (Nat.le_trans (unsL_le _ _ D) hlen) (fun d hd => hs d (unsL_mem hd)))
  have HE : Hid (valR 3 start D = ⟨0, riseT (elemsD (unsL 4 5 D)), false⟩) := Lib.hid rfl
  obtain ⟨A, c, rfl⟩ := dv_form h
  obtain ⟨n, hn⟩ : ∃ n, n = D.length := ⟨_, rfl⟩
  rw [← hn] at HT
  rw [← hn]
  have HZ := Lib.hid hz
  have HG := Lib.hid hg
  clear h hx hlen hs hb hn hg hz
  go_enter Tryz.func162, Tryz.ntmps162
  go_upto_region 1 with (fail)
  rw [← hW]
  clear hW
  go_wp2_with fail
  refine (HT.out _ (Gr.refl _)).mono ?_
  rintro e w1 ⟨s1, rfl, hd1, g1⟩
  have hd1 : DV w1 s1 (unsL 4 5 D) := hd1
  have HR1 := Lib.hid (HR.out s1 w1 hd1 g1)
  obtain ⟨A1, c1, hs1⟩ := dv_form hd1
  subst hs1
  obtain ⟨m1, hm1⟩ : ∃ m, m = (unsL 4 5 D).length := ⟨_, rfl⟩
  rw [← hm1] at HR1 ⊢
  have HSB : Hid (w.heap.size < w1.heap.size) := Lib.hid (Nat.lt_of_lt_of_le HS.out g1.size)
  have HG1 := Lib.hid g1
  clear hd1 g1 hm1
  go_wp2_with fail
  refine HR1.out.mono ?_
  rintro e w2 ⟨ve, rfl, ho, g2'⟩
  have g2 := HG1.out.trans g2'
  clear g2'
  have HO := Lib.hid ho
  obtain ⟨Ae, ce, hve, -, -⟩ := own_form ho
  subst hve
  obtain ⟨E, hEE⟩ : ∃ E, E = riseT (elemsD (unsL 4 5 D)) := ⟨_, rfl⟩
  rw [← hEE] at HE HO ⊢
  obtain ⟨m, hm⟩ : ∃ m, m = E.length := ⟨_, rfl⟩
  rw [← hm] at HO ⊢
  clear ho hm hEE
  have hz2 := gr_obj g2 HZ.out
  have z0 : w2.cell? ⟨w.heap.size, 0, none⟩ = some (.int .i64 0) := by rw [cell_of_block hz2]; rfl
  have z1 : w2.cell? ⟨w.heap.size, 1, none⟩ = some (.slice none 0 0) := by rw [cell_of_block hz2]; rfl
  have z2 : w2.cell? ⟨w.heap.size, 2, none⟩ = some (.bool false) := by rw [cell_of_block hz2]; rfl
  have k0 := unfrozen_of_block hz2 0
  have k1 := unfrozen_of_block hz2 1
  have k2 := unfrozen_of_block hz2 2
  have HG2 := Lib.hid (HG.out.trans g2)
  have HSZ : Hid (w.heap.size < W.heap.size) := Lib.hid HS.out
  clear g2 hz2
  go_wp2_with fail
  rw [HE.out]
  refine bodyPost_ret (v := .agg #[.int .i64 0, .slice Ae m ce, .bool false]) (by simp [results, Tryz.results162, go_sem, *]) rfl ⟨_, rfl, ?_, ?_⟩
  · show SO (((w2.setCell _ _).setCell _ _).setCell _ _) _ _ _
    exact (HO.out.set3 HSB.out _ _ _).le (Nat.le_of_lt HSB.out)
  · show Gr w (((w2.setCell _ _).setCell _ _).setCell _ _)
    exact ((HG2.out.setCell (Nat.le_refl _) _).setCell (Nat.le_refl _) _).setCell (Nat.le_refl _) _

set_option maxRecDepth 100000 in
set_option maxHeartbeats 4000000 in
theorem valueOfK8 (start : Int) (v : Value) (D : List DD) (w : World) (h : DV w v D) (hx : DXs w D) (hlen : D.length ≤ 65536) (hs : ∀ d ∈ D, d.op.elem.size ≤ 281474976710656) (hb : wrap64 start = start) :
    Calls Tryz.prog 162 #[.int .i64 8, .int .i64 start, v] w fun e w' => RetVal (valR 8 start D) w e w' := by
  obtain ⟨W, hW, hg, hz⟩ := valbox w
  have HS : Hid (w.heap.size < W.heap.size) := Lib.hid (by rw [hW]; simp)
  have HT := Lib.hid (fun w1 (g : Gr W w1) => unseen_any v D 4 5 w1 ((h.gr hg).gr g) ((hx.gr hg).gr g) hlen (about_fit hs))
  have HR := Lib.hid (fun (v1 : Value) (w1 : World) (h1 : DV w1 v1 (unsL 4 5 D)) (g : Gr W w1) => risingV_any v1 _ w1 h1 (fun d hd => ((hx.gr hg).gr g) d (unsL_mem hd)) (Nat.le_trans (unsL_le _ _ D) hlen) (fun d hd => hs d (unsL_mem hd)))
  have HE : Hid (valR 8 start D = ⟨0, riseT (elemsD (unsL 4 5 D)), false⟩) := Lib.hid rfl
  obtain ⟨A, c, rfl⟩ := dv_form h
  obtain ⟨n, hn⟩ : ∃ n, n = D.length := ⟨_, rfl⟩
  rw [← hn] at HT
  rw [← hn]
  have HZ := Lib.hid hz
  have HG := Lib.hid hg
  clear h hx hlen hs hb hn hg hz
  go_enter Tryz.func162, Tryz.ntmps162
  go_upto_region 1 with (fail)
  rw [← hW]
  clear hW
  go_wp2_with fail
  refine (HT.out _ (Gr.refl _)).mono ?_
  rintro e w1 ⟨s1, rfl, hd1, g1⟩
  have hd1 : DV w1 s1 (unsL 4 5 D) := hd1
  have HR1 := Lib.hid (HR.out s1 w1 hd1 g1)
  obtain ⟨A1, c1, hs1⟩ := dv_form hd1
  subst hs1
  obtain ⟨m1, hm1⟩ : ∃ m, m = (unsL 4 5 D).length := ⟨_, rfl⟩
  rw [← hm1] at HR1 ⊢
  have HSB : Hid (w.heap.size < w1.heap.size) := Lib.hid (Nat.lt_of_lt_of_le HS.out g1.size)
  have HG1 := Lib.hid g1
  clear hd1 g1 hm1
  go_wp2_with fail
  refine HR1.out.mono ?_
  rintro e w2 ⟨ve, rfl, ho, g2'⟩
  have g2 := HG1.out.trans g2'
  clear g2'
  have HO := Lib.hid ho
  obtain ⟨Ae, ce, hve, -, -⟩ := own_form ho
  subst hve
  obtain ⟨E, hEE⟩ : ∃ E, E = riseT (elemsD (unsL 4 5 D)) := ⟨_, rfl⟩
  rw [← hEE] at HE HO ⊢
  obtain ⟨m, hm⟩ : ∃ m, m = E.length := ⟨_, rfl⟩
  rw [← hm] at HO ⊢
  clear ho hm hEE
  have hz2 := gr_obj g2 HZ.out
  have z0 : w2.cell? ⟨w.heap.size, 0, none⟩ = some (.int .i64 0) := by rw [cell_of_block hz2]; rfl
  have z1 : w2.cell? ⟨w.heap.size, 1, none⟩ = some (.slice none 0 0) := by rw [cell_of_block hz2]; rfl
  have z2 : w2.cell? ⟨w.heap.size, 2, none⟩ = some (.bool false) := by rw [cell_of_block hz2]; rfl
  have k0 := unfrozen_of_block hz2 0
  have k1 := unfrozen_of_block hz2 1
  have k2 := unfrozen_of_block hz2 2
  have HG2 := Lib.hid (HG.out.trans g2)
  have HSZ : Hid (w.heap.size < W.heap.size) := Lib.hid HS.out
  clear g2 hz2
  go_wp2_with fail
  rw [HE.out]
  refine bodyPost_ret (v := .agg #[.int .i64 0, .slice Ae m ce, .bool false]) (by simp [results, Tryz.results162, go_sem, *]) rfl ⟨_, rfl, ?_, ?_⟩
  · show SO (((w2.setCell _ _).setCell _ _).setCell _ _) _ _ _
    exact (HO.out.set3 HSB.out _ _ _).le (Nat.le_of_lt HSB.out)
  · show Gr w (((w2.setCell _ _).setCell _ _).setCell _ _)
    exact ((HG2.out.setCell (Nat.le_refl _) _).setCell (Nat.le_refl _) _).setCell (Nat.le_refl _) _

set_option maxRecDepth 100000 in
set_option maxHeartbeats 4000000 in
theorem valueOfK6 (start : Int) (v : Value) (D : List DD) (w : World) (h : DV w v D) (hx : DXs w D) (hlen : D.length ≤ 65536) (hs : ∀ d ∈ D, d.op.elem.size ≤ 281474976710656) (hb : wrap64 start = start) :
    Calls Tryz.prog 162 #[.int .i64 6, .int .i64 start, v] w fun e w' => RetVal (valR 6 start D) w e w' := by
  obtain ⟨W, hW, hg, hz⟩ := valbox w
  have HS : Hid (w.heap.size < W.heap.size) := Lib.hid (by rw [hW]; simp)
  have HT := Lib.hid (fun w1 (g : Gr W w1) => unseen_any v D 6 6 w1 ((h.gr hg).gr g) ((hx.gr hg).gr g) hlen (about_fit hs))
  have HR := Lib.hid (fun (v1 : Value) (w1 : World) (h1 : DV w1 v1 (unsL 6 6 D)) (g : Gr W w1) => risingV_any v1 _ w1 h1 (fun d hd => ((hx.gr hg).gr g) d (unsL_mem hd)) (Nat.le_trans (unsL_le _ _ D) hlen) (fun d hd => hs d (unsL_mem hd)))
  have HE : Hid (valR 6 start D = ⟨0, riseT (elemsD (unsL 6 6 D)), false⟩) := Lib.hid rfl
  obtain ⟨A, c, rfl⟩ := dv_form h
  obtain ⟨n, hn⟩ : ∃ n, n = D.length := ⟨_, rfl⟩
  rw [← hn] at HT
  rw [← hn]
  have HZ := Lib.hid hz
  have HG := Lib.hid hg
  clear h hx hlen hs hb hn hg hz
  go_enter Tryz.func162, Tryz.ntmps162
  go_upto_region 1 with (fail)
  rw [← hW]
  clear hW
  go_wp2_with fail
  refine (HT.out _ (Gr.refl _)).mono ?_
  rintro e w1 ⟨s1, rfl, hd1, g1⟩
  have hd1 : DV w1 s1 (unsL 6 6 D) := hd1
  have HR1 := Lib.hid (HR.out s1 w1 hd1 g1)
  obtain ⟨A1, c1, hs1⟩ := dv_form hd1
  subst hs1
  obtain ⟨m1, hm1⟩ : ∃ m, m = (unsL 6 6 D).length := ⟨_, rfl⟩
  rw [← hm1] at HR1 ⊢
  have HSB : Hid (w.heap.size < w1.heap.size) := Lib.hid (Nat.lt_of_lt_of_le HS.out g1.size)
  have HG1 := Lib.hid g1
  clear hd1 g1 hm1
  go_wp2_with fail
  refine HR1.out.mono ?_
  rintro e w2 ⟨ve, rfl, ho, g2'⟩
  have g2 := HG1.out.trans g2'
  clear g2'
  have HO := Lib.hid ho
  obtain ⟨Ae, ce, hve, -, -⟩ := own_form ho
  subst hve
  obtain ⟨E, hEE⟩ : ∃ E, E = riseT (elemsD (unsL 6 6 D)) := ⟨_, rfl⟩
  rw [← hEE] at HE HO ⊢
  obtain ⟨m, hm⟩ : ∃ m, m = E.length := ⟨_, rfl⟩
  rw [← hm] at HO ⊢
  clear ho hm hEE
  have hz2 := gr_obj g2 HZ.out
  have z0 : w2.cell? ⟨w.heap.size, 0, none⟩ = some (.int .i64 0) := by rw [cell_of_block hz2]; rfl
  have z1 : w2.cell? ⟨w.heap.size, 1, none⟩ = some (.slice none 0 0) := by rw [cell_of_block hz2]; rfl
  have z2 : w2.cell? ⟨w.heap.size, 2, none⟩ = some (.bool false) := by rw [cell_of_block hz2]; rfl
  have k0 := unfrozen_of_block hz2 0
  have k1 := unfrozen_of_block hz2 1
  have k2 := unfrozen_of_block hz2 2
  have HG2 := Lib.hid (HG.out.trans g2)
  have HSZ : Hid (w.heap.size < W.heap.size) := Lib.hid HS.out
  clear g2 hz2
  go_wp2_with fail
  rw [HE.out]
  refine bodyPost_ret (v := .agg #[.int .i64 0, .slice Ae m ce, .bool false]) (by simp [results, Tryz.results162, go_sem, *]) rfl ⟨_, rfl, ?_, ?_⟩
  · show SO (((w2.setCell _ _).setCell _ _).setCell _ _) _ _ _
    exact (HO.out.set3 HSB.out _ _ _).le (Nat.le_of_lt HSB.out)
  · show Gr w (((w2.setCell _ _).setCell _ _).setCell _ _)
    exact ((HG2.out.setCell (Nat.le_refl _) _).setCell (Nat.le_refl _) _).setCell (Nat.le_refl _) _

set_option maxRecDepth 100000 in
set_option maxHeartbeats 4000000 in
theorem valueOfK4 (start : Int) (v : Value) (D : List DD) (w : World) (h : DV w v D) (hx : DXs w D) (hlen : D.length ≤ 65536) (hs : ∀ d ∈ D, d.op.elem.size ≤ 281474976710656) (hb : wrap64 start = start) :
    Calls Tryz.prog 162 #[.int .i64 4, .int .i64 start, v] w fun e w' => RetVal (valR 4 start D) w e w' := by
  obtain ⟨W, hW, hg, hz⟩ := valbox w
  have HS : Hid (w.heap.size < W.heap.size) := Lib.hid (by rw [hW]; simp)
  have HT := Lib.hid (fun w1 (g : Gr W w1) => firmV_any v D w1 ((h.gr hg).gr g) ((hx.gr hg).gr g) hlen hs)
  have HE : Hid (valR 4 start D = ⟨0, firmL D, false⟩) := Lib.hid rfl
  obtain ⟨A, c, rfl⟩ := dv_form h
  obtain ⟨n, hn⟩ : ∃ n, n = D.length := ⟨_, rfl⟩
  rw [← hn] at HT
  rw [← hn]
  have HZ := Lib.hid hz
  have HG := Lib.hid hg
  clear h hx hlen hs hb hn hg hz
  go_enter Tryz.func162, Tryz.ntmps162
  go_upto_region 1 with (fail)
  rw [← hW]
  clear hW
  go_wp2_with fail
  refine (HT.out _ (Gr.refl _)).mono ?_
  rintro e w2 ⟨ve, rfl, ho, g2⟩
  have HSB := HS
  have HO := Lib.hid ho
  obtain ⟨Ae, ce, hve, -, -⟩ := own_form ho
  subst hve
  obtain ⟨E, hEE⟩ : ∃ E, E = firmL D := ⟨_, rfl⟩
  rw [← hEE] at HE HO ⊢
  obtain ⟨m, hm⟩ : ∃ m, m = E.length := ⟨_, rfl⟩
  rw [← hm] at HO ⊢
  clear ho hm hEE
  have hz2 := gr_obj g2 HZ.out
  have z0 : w2.cell? ⟨w.heap.size, 0, none⟩ = some (.int .i64 0) := by rw [cell_of_block hz2]; rfl
  have z1 : w2.cell? ⟨w.heap.size, 1, none⟩ = some (.slice none 0 0) := by rw [cell_of_block hz2]; rfl
  have z2 : w2.cell? ⟨w.heap.size, 2, none⟩ = some (.bool false) := by rw [cell_of_block hz2]; rfl
  have k0 := unfrozen_of_block hz2 0
  have k1 := unfrozen_of_block hz2 1
  have k2 := unfrozen_of_block hz2 2
  have HG2 := Lib.hid (HG.out.trans g2)
  have HSZ : Hid (w.heap.size < W.heap.size) := Lib.hid HS.out
  clear g2 hz2
  go_wp2_with fail
  rw [HE.out]
  refine bodyPost_ret (v := .agg #[.int .i64 0, .slice Ae m ce, .bool false]) (by simp [results, Tryz.results162, go_sem, *]) rfl ⟨_, rfl, ?_, ?_⟩
  · show SO (((w2.setCell _ _).setCell _ _).setCell _ _) _ _ _
    exact (HO.out.set3 HSB.out _ _ _).le (Nat.le_of_lt HSB.out)
  · show Gr w (((w2.setCell _ _).setCell _ _).setCell _ _)
    exact ((HG2.out.setCell (Nat.le_refl _) _).setCell (Nat.le_refl _) _).setCell (Nat.le_refl _) _

set_option maxRecDepth 100000 in
set_option maxHeartbeats 4000000 in
theorem valueOfK5 (start : Int) (v : Value) (D : List DD) (w : World) (h : DV w v D) (hx : DXs w D) (hlen : D.length ≤ 65536) (hs : ∀ d ∈ D, d.op.elem.size ≤ 281474976710656) (hb : wrap64 start = start) :
    Calls Tryz.prog 162 #[.int .i64 5, .int .i64 start, v] w fun e w' => RetVal (valR 5 start D) w e w' := by
  obtain ⟨W, hW, hg, hz⟩ := valbox w
  have HS : Hid (w.heap.size < W.heap.size) := Lib.hid (by rw [hW]; simp)
  have HT := Lib.hid (fun w1 (g : Gr W w1) => lastV_any v D w1 ((h.gr hg).gr g) ((hx.gr hg).gr g) hlen hs)
  have HE : Hid (valR 5 start D = ⟨0, lastL D, false⟩) := Lib.hid rfl
  obtain ⟨A, c, rfl⟩ := dv_form h
  obtain ⟨n, hn⟩ : ∃ n, n = D.length := ⟨_, rfl⟩
  rw [← hn] at HT
  rw [← hn]
  have HZ := Lib.hid hz
  have HG := Lib.hid hg
  clear h hx hlen hs hb hn hg hz
  go_enter Tryz.func162, Tryz.ntmps162
  go_upto_region 1 with (fail)
  rw [← hW]
  clear hW
  go_wp2_with fail
  refine (HT.out _ (Gr.refl _)).mono ?_
  rintro e w2 ⟨ve, rfl, ho, g2⟩
  have HSB := HS
  have HO := Lib.hid ho
  obtain ⟨Ae, ce, hve, -, -⟩ := own_form ho
  subst hve
  obtain ⟨E, hEE⟩ : ∃ E, E = lastL D := ⟨_, rfl⟩
  rw [← hEE] at HE HO ⊢
  obtain ⟨m, hm⟩ : ∃ m, m = E.length := ⟨_, rfl⟩
  rw [← hm] at HO ⊢
  clear ho hm hEE
  have hz2 := gr_obj g2 HZ.out
  have z0 : w2.cell? ⟨w.heap.size, 0, none⟩ = some (.int .i64 0) := by rw [cell_of_block hz2]; rfl
  have z1 : w2.cell? ⟨w.heap.size, 1, none⟩ = some (.slice none 0 0) := by rw [cell_of_block hz2]; rfl
  have z2 : w2.cell? ⟨w.heap.size, 2, none⟩ = some (.bool false) := by rw [cell_of_block hz2]; rfl
  have k0 := unfrozen_of_block hz2 0
  have k1 := unfrozen_of_block hz2 1
  have k2 := unfrozen_of_block hz2 2
  have HG2 := Lib.hid (HG.out.trans g2)
  have HSZ : Hid (w.heap.size < W.heap.size) := Lib.hid HS.out
  clear g2 hz2
  go_wp2_with fail
  rw [HE.out]
  refine bodyPost_ret (v := .agg #[.int .i64 0, .slice Ae m ce, .bool false]) (by simp [results, Tryz.results162, go_sem, *]) rfl ⟨_, rfl, ?_, ?_⟩
  · show SO (((w2.setCell _ _).setCell _ _).setCell _ _) _ _ _
    exact (HO.out.set3 HSB.out _ _ _).le (Nat.le_of_lt HSB.out)
  · show Gr w (((w2.setCell _ _).setCell _ _).setCell _ _)
    exact ((HG2.out.setCell (Nat.le_refl _) _).setCell (Nat.le_refl _) _).setCell (Nat.le_refl _) _

set_option maxRecDepth 100000 in
set_option maxHeartbeats 4000000 in
theorem valueOfK7 (start : Int) (v : Value) (D : List DD) (w : World) (h : DV w v D) (hx : DXs w D) (hlen : D.length ≤ 65536) (hs : ∀ d ∈ D, d.op.elem.size ≤ 281474976710656) (hb : wrap64 start = start) :
    Calls Tryz.prog 162 #[.int .i64 7, .int .i64 start, v] w fun e w' => RetVal (valR 7 start D) w e w' := by
  obtain ⟨W, hW, hg, hz⟩ := valbox w
  have HS : Hid (w.heap.size < W.heap.size) := Lib.hid (by rw [hW]; simp)
  have HT := Lib.hid (fun w1 (g : Gr W w1) => on_any start v D w1 ((h.gr hg).gr g) ((hx.gr hg).gr g) hlen (about_fit hs))
  have HE : Hid (valR 7 start D = ⟨0, [], onB start D⟩) := Lib.hid rfl
  obtain ⟨x, hxx⟩ : ∃ x, x = onB start D := ⟨_, rfl⟩
  rw [← hxx] at HT HE
  clear hxx
  obtain ⟨A, c, rfl⟩ := dv_form h
  obtain ⟨n, hn⟩ : ∃ n, n = D.length := ⟨_, rfl⟩
  rw [← hn] at HT
  rw [← hn]
  have HZ := Lib.hid hz
  have HG := Lib.hid hg
  clear h hx hlen hs hb hn hg hz
  go_enter Tryz.func162, Tryz.ntmps162
  go_upto_region 1 with (fail)
  rw [← hW]
  clear hW
  go_wp2_with fail
  refine (HT.out _ (Gr.refl _)).mono ?_
  rintro e w2 ⟨rfl, g2⟩
  have hz2 := gr_obj g2 HZ.out
  have z0 : w2.cell? ⟨w.heap.size, 0, none⟩ = some (.int .i64 0) := by rw [cell_of_block hz2]; rfl
  have z1 : w2.cell? ⟨w.heap.size, 1, none⟩ = some (.slice none 0 0) := by rw [cell_of_block hz2]; rfl
  have z2 : w2.cell? ⟨w.heap.size, 2, none⟩ = some (.bool false) := by rw [cell_of_block hz2]; rfl
  have k0 := unfrozen_of_block hz2 0
  have k1 := unfrozen_of_block hz2 1
  have k2 := unfrozen_of_block hz2 2
  have HG2 := Lib.hid (HG.out.trans g2)
  have HSZ : Hid (w.heap.size < W.heap.size) := Lib.hid HS.out
  clear g2 hz2
  go_wp2_with fail
  rw [HE.out]
  refine bodyPost_ret (v := .agg #[.int .i64 0, .slice none 0 0, .bool x]) (by simp [results, Tryz.results162, go_sem, *]) rfl ⟨_, rfl, SO.nil _ _, ?_⟩
  show Gr w (((w2.setCell _ _).setCell _ _).setCell _ _)
  exact ((HG2.out.setCell (Nat.le_refl _) _).setCell (Nat.le_refl _) _).setCell (Nat.le_refl _) _

theorem valueOf_any (kind start : Int) (hk : 1 ≤ kind ∧ kind ≤ 8) (v : Value) (D : List DD) (w : World) (h : DV w v D) (hx : DXs w D) (hlen : D.length ≤ 65536) (hs : ∀ d ∈ D, d.op.elem.size ≤ 281474976710656) (hb : wrap64 start = start) :
    Calls Tryz.prog 162 #[.int .i64 kind, .int .i64 start, v] w fun e w' => RetVal (valR kind start D) w e w' := by
  obtain rfl | rfl | rfl | rfl | rfl | rfl | rfl | rfl : kind = 1 ∨ kind = 2 ∨ kind = 3 ∨ kind = 4 ∨ kind = 5 ∨ kind = 6 ∨ kind = 7 ∨ kind = 8 := by omega
  · exact valueOfK1 start v D w h hx hlen hs hb
  · exact valueOfK2 start v D w h hx hlen hs hb
  · exact valueOfK3 start v D w h hx hlen hs hb
  · exact valueOfK4 start v D w h hx hlen hs hb
  · exact valueOfK5 start v D w h hx hlen hs hb
  · exact valueOfK6 start v D w h hx hlen hs hb
  · exact valueOfK7 start v D w h hx hlen hs hb
  · exact valueOfK8 start v D w h hx hlen hs hb
end Go.Proofs.YtnjmgknicffcbaaGreatDoor
