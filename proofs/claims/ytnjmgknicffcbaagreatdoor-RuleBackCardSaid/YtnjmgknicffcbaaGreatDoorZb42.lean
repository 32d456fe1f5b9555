/- Walks: Value, of any kind, at any cut of any logs. -/
import Derived.Test.YtnjmgknicffcbaaGreatDoorZb41
namespace Go.Proofs.YtnjmgknicffcbaaGreatDoor
open Go.RowKit Go.Joins
set_option linter.unusedSimpArgs false
set_option linter.unusedVariables false

/-- A deed with no place in memory. -/
def toD (x : TX × Nat) : DD := ⟨0, 0, x.1, x.2⟩
def erD (d : DD) : DD := toD (d.t, d.i)
theorem erD_all (D : List DD) : (dsh D).map toD = D.map erD := by
  unfold dsh
  rw [List.map_map]
  rfl
theorem kindF_er (k : Int) (D : List DD) : kindF k (D.map erD) = (kindF k D).map erD := by
  unfold kindF
  rw [List.filter_map]
  rfl
theorem sumD_er (D : List DD) : ∀ j, sumD (D.map erD) j = sumD D j
  | 0 => rfl
  | j + 1 => by
    show sumD (D.map erD) j + _ = sumD D j + _
    rw [sumD_er D j, List.getElem?_map]
    cases D[j]? <;> rfl
theorem totD_er (s : Int) (D : List DD) : totD s (D.map erD) = totD s D := by
  unfold totD
  rw [kindF_er, kindF_er, sumD_er, sumD_er, List.length_map, List.length_map]
theorem seenF_er (L : List DD) : ∀ j, seenF (L.map erD) j = seenF L j
  | 0 => rfl
  | j + 1 => by
    cases h : L[j]? with
    | none =>
      show (match (L.map erD)[j]? with | some d => _ | none => _) = (match L[j]? with | some d => _ | none => _)
      rw [List.getElem?_map, h]
      exact seenF_er L j
    | some d =>
      rw [seenF_at h, seenF_at (L := L.map erD) (d := erD d) (by rw [List.getElem?_map, h]; rfl), seenF_er L j]
      rfl
theorem unsL_er (a b : Int) (D : List DD) : unsL a b (D.map erD) = (unsL a b D).map erD := by
  unfold unsL
  rw [kindF_er, kindF_er, List.length_map, seenF_er, List.filter_map]
  rfl
theorem elemsD_er (D : List DD) : elemsD (D.map erD) = elemsD D := by
  unfold elemsD
  rw [List.map_map]
  rfl
theorem topD_er (D : List DD) : topD (D.map erD) = (topD D).map erD := by
  have h : ∀ (D : List DD) (o : Option DD), (D.map erD).foldl topN (o.map erD) = (D.foldl topN o).map erD := by
    intro D
    induction D with
    | nil => intro o; rfl
    | cons d r ih =>
      intro o
      rw [List.map_cons, List.foldl_cons, List.foldl_cons, ← ih]
      congr 1
      cases o with
      | none => rfl
      | some t =>
        show topN (some (erD t)) (erD d) = _
        by_cases hle : t.t.stamp ≤ d.t.stamp
        · rw [topN_yes hle, topN_yes (t := erD t) (d := erD d) hle]; rfl
        · rw [topN_no hle, topN_no (t := erD t) (d := erD d) hle]; rfl
  exact h D none
theorem valR_er (kind start : Int) (D : List DD) : valR kind start (D.map erD) = valR kind start D := by
  have e1 : firmL (D.map erD) = firmL D := by unfold firmL; rw [kindF_er, unsL_er, elemsD_er, elemsD_er]
  have e2 : lastL (D.map erD) = lastL D := by
    unfold lastL
    rw [kindF_er, topD_er]
    cases topD (kindF 6 D) <;> rfl
  have e3 : onB start (D.map erD) = onB start D := by unfold onB; rw [unsL_er, kindF_er, List.length_map, List.length_map]
  unfold valR
  rw [totD_er, unsL_er, unsL_er, elemsD_er, elemsD_er, e1, e2, e3]
/-- Which error Value answers. -/
def valE (kind : Int) (l : LG) (v : Nat → Nat) : Nat := if kind < 1 ∨ 8 < kind then 100 else if checkE l = 0 then (if closedB l v = true then 0 else 92) else checkE l
/-- A key's value at a closed cut. -/
def valAt (kind start : Int) (l : LG) (v : Nat → Nat) (key : ByteArray) : VR := valR kind start ((dAll key l v 8).map toD)
def valV (kind start : Int) (l : LG) (v : Nat → Nat) (key : ByteArray) : VR := if valE kind l v = 0 then valAt kind start l v key else ⟨0, [], false⟩
def RetValE (r : VR) (k : Nat) (w : World) (e : Ending) (w' : World) : Prop := ∃ ve, e = .returned (.tuple #[.agg #[.int .i64 r.n, ve, .bool r.on], .int .i64 (k : Int)]) ∧ SO w' w.heap.size ve r.e ∧ Gr w w'
theorem dsh_elems {key : ByteArray} {l : LG} {v : Nat → Nat} (hl : OkL l) {D : List DD} (h : dsh D = dAll key l v 8) : ∀ d ∈ D, d.op.elem.size ≤ 32 ∧ d.i < d.t.ops.length := by
  have hmem : ∀ x ∈ dAll key l v 8, ∃ (i : Nat) (_ : i < 8), x.1 ∈ l i ∧ x.2 < x.1.ops.length := by
    have h1 : ∀ (t : TX) j, j ≤ t.ops.length → ∀ x ∈ dTx key t j, x.1 = t ∧ x.2 < t.ops.length := by
      intro t j
      induction j with
      | zero => intro _ x hx; cases hx
      | succ j ih =>
        intro hj x hx
        unfold dTx at hx
        rcases List.mem_append.1 hx with hx | hx
        · exact ih (by omega) x hx
        · split at hx
          · split at hx
            · obtain rfl := List.mem_singleton.1 hx
              exact ⟨rfl, hj⟩
            · cases hx
          · cases hx
    have h2 : ∀ i d, ∀ x ∈ dLog key l i d, x.1 ∈ l i ∧ x.2 < x.1.ops.length := by
      intro i d
      induction d with
      | zero => intro x hx; cases hx
      | succ d ih =>
        intro x hx
        unfold dLog at hx
        rcases List.mem_append.1 hx with hx | hx
        · exact ih x hx
        · split at hx
          · next t ht =>
            obtain ⟨rfl, hlt⟩ := h1 t _ (Nat.le_refl _) x hx
            exact ⟨List.mem_of_getElem? ht, hlt⟩
          · cases hx
    have h3 : ∀ n, n ≤ 8 → ∀ x ∈ dAll key l v n, ∃ (i : Nat) (_ : i < 8), x.1 ∈ l i ∧ x.2 < x.1.ops.length := by
      intro n
      induction n with
      | zero => intro _ x hx; cases hx
      | succ n ih =>
        intro hn x hx
        unfold dAll at hx
        rcases List.mem_append.1 hx with hx | hx
        · exact ih (by omega) x hx
        · exact ⟨n, by omega, h2 n _ x hx⟩
    exact h3 8 (Nat.le_refl _)
  intro d hd
  obtain ⟨i, hi, hm, hlt⟩ := hmem (d.t, d.i) (by rw [← h]; exact List.mem_map.2 ⟨d, hd, rfl⟩)
  obtain ⟨k, hk⟩ := List.mem_iff_getElem?.1 hm
  have hok := (hl.tx i k d.t hi hk).1
  have hop : d.op = d.t.ops[d.i] := by
    unfold DD.op
    rw [List.getD_eq_getElem?_getD, List.getElem?_eq_getElem hlt]
    rfl
  refine ⟨?_, hlt⟩
  rw [hop]
  exact (hok.2.2.2 _ (List.getElem_mem hlt)).2.1
set_option maxRecDepth 100000 in
set_option maxHeartbeats 4000000 in
theorem value_any (kind start : Int) (u : Nat → S3) (l : LG) (v : Nat → Nat) (key : ByteArray) (w : World) (h : LV w u l) (hq : FitQ l) (hb : wrap64 start = start) :
    Calls Tryz.prog 139 #[.int .i64 kind, .int .i64 start, .agg (lcells u), .agg (vcells v), .string key] w fun e w' => RetValE (valV kind start l v key) (valE kind l v) w e w' := by
  obtain ⟨W, hW, hg, hL, hV, hz⟩ := boxesVa u v w
  have HSW : Hid (w.heap.size + 1 + 1 < W.heap.size) := Lib.hid (by rw [hW]; simp)
  have HL := Lib.hid hL
  have HV := Lib.hid hV
  have HZ := Lib.hid hz
  have HG := Lib.hid hg
  have hz0 := HZ.out
  have z0 : W.cell? ⟨w.heap.size + 1 + 1, 0, none⟩ = some (.int .i64 0) := by rw [cell_of_block hz0]; rfl
  have z1 : W.cell? ⟨w.heap.size + 1 + 1, 1, none⟩ = some (.slice none 0 0) := by rw [cell_of_block hz0]; rfl
  have z2 : W.cell? ⟨w.heap.size + 1 + 1, 2, none⟩ = some (.bool false) := by rw [cell_of_block hz0]; rfl
  have k0 := unfrozen_of_block hz0 0
  have k1 := unfrozen_of_block hz0 1
  have k2 := unfrozen_of_block hz0 2
  by_cases hk1 : kind < 1
  · have HE : Hid (valE kind l v = 100) := Lib.hid (by unfold valE; rw [if_pos (.inl hk1)])
    have HR : Hid (valV kind start l v key = ⟨0, [], false⟩) := Lib.hid (by unfold valV; rw [HE.out]; rfl)
    have d1 : decide (kind < 1) = true := decide_eq_true hk1
    rw [HE.out, HR.out]
    clear hL hV hz hg h hq hb hz0
    go_enter Tryz.func139, Tryz.ntmps139
    go_upto_region 1 with (fail)
    rw [← hW]
    clear hW
    go_wp2_with fail
    refine bodyPost_ret (v := .tuple #[.agg (valv 0), .int .i64 100]) (by simp [results, Tryz.results139, go_sem, *]) rfl ⟨_, rfl, SO.nil _ _, ?_⟩
    show Gr w (((W.setCell _ _).setCell _ _).setCell _ _)
    exact ((HG.out.setCell (by simp only []; omega) _).setCell (by simp only []; omega) _).setCell (by simp only []; omega) _
  by_cases hk8 : 8 < kind
  · have HE : Hid (valE kind l v = 100) := Lib.hid (by unfold valE; rw [if_pos (.inr hk8)])
    have HR : Hid (valV kind start l v key = ⟨0, [], false⟩) := Lib.hid (by unfold valV; rw [HE.out]; rfl)
    have d1 : decide (kind < 1) = false := decide_eq_false hk1
    have d2 : decide (8 < kind) = true := decide_eq_true hk8
    rw [HE.out, HR.out]
    clear hL hV hz hg h hq hb hz0
    go_enter Tryz.func139, Tryz.ntmps139
    go_upto_region 1 with (fail)
    rw [← hW]
    clear hW
    go_wp2_with fail
    refine bodyPost_ret (v := .tuple #[.agg (valv 0), .int .i64 100]) (by simp [results, Tryz.results139, go_sem, *]) rfl ⟨_, rfl, SO.nil _ _, ?_⟩
    show Gr w (((W.setCell _ _).setCell _ _).setCell _ _)
    exact ((HG.out.setCell (by simp only []; omega) _).setCell (by simp only []; omega) _).setCell (by simp only []; omega) _
  have hkk : ¬ (kind < 1 ∨ 8 < kind) := by omega
  have HKK : Hid (1 ≤ kind ∧ kind ≤ 8) := Lib.hid (by omega)
  have d1 : decide (kind < 1) = false := decide_eq_false hk1
  have d2 : decide (8 < kind) = false := decide_eq_false hk8
  have HCK := Lib.hid (fun w1 (g : Gr W w1) => check9_any u l w1 ((h.gr hg).gr g) hq)
  obtain ⟨l0, l1, l2, l3, l4, l5, l6, l7⟩ := hL.all
  obtain ⟨ce, hce⟩ : ∃ c, c = checkE l := ⟨_, rfl⟩
  rw [← hce] at HCK
  by_cases hc0 : ce = 0
  · have hok : checkE l = 0 := by rw [← hce]; exact hc0
    have HCL := Lib.hid (fun w1 (g : Gr W w1) => closed_any u l v w1 ((h.gr hg).gr g))
    subst hc0
    by_cases hcl : closedB l v = true
    · have HE : Hid (valE kind l v = 0) := Lib.hid (by unfold valE; rw [if_neg hkk, if_pos hok, if_pos hcl])
      have HR : Hid (valV kind start l v key = valAt kind start l v key) := Lib.hid (by unfold valV; rw [HE.out]; rfl)
      have hclp := closedB_iff.1 hcl
      rw [hcl] at HCL
      have hl := okL_iff.1 hok
      have HOL := Lib.hid hl
      have hop : ∀ i t, i < 8 → t ∈ l i → t.ops.length ≤ 8 := fun i t hi ht => by
        obtain ⟨k, hk⟩ := List.mem_iff_getElem?.1 ht
        exact (hl.tx i k t hi hk).1.2.2.1
      have hvl : ∀ i, i < 8 → v i ≤ 1024 := fun i hi => Nat.le_trans (lq hclp.1 hi) (hl.len i hi)
      have HDS := Lib.hid (fun w1 (g : Gr W w1) => deeds_any u l v key w1 ((h.gr hg).gr g) hclp.1 hop hvl)
      have HDA := Lib.hid (dAll_len key l v hop hvl 8 (Nat.le_refl _))
      have HBD := Lib.hid hb
      obtain ⟨r, hr⟩ : ∃ r, r = valAt kind start l v key := ⟨_, rfl⟩
      rw [HE.out, HR.out, ← hr]
      have HVR := Lib.hid hr
      clear hr
      clear hL hV hz hg h hq hb hz0 hok hcl hclp hl hop hvl z0 z1 z2 k0 k1 k2 hce hkk hk1 hk8
      go_enter Tryz.func139, Tryz.ntmps139
      go_upto_region 1 with (fail)
      rw [← hW]
      clear hW
      go_wp2_with fail
      refine (HCK.out _ (Gr.refl _)).mono ?_
      rintro e w2 ⟨rfl, g2⟩
      have HG2 := Lib.hid g2
      clear g2 l0 l1 l2 l3 l4 l5 l6 l7
      obtain ⟨l0, l1, l2, l3, l4, l5, l6, l7⟩ := (HL.out.gr HG2.out).all
      obtain ⟨v0, v1, v2, v3, v4, v5, v6, v7⟩ := (HV.out.gr HG2.out).all
      go_wp2_with fail
      refine (HCL.out _ HG2.out).mono ?_
      rintro e w3 ⟨rfl, g3⟩
      have HG3 := Lib.hid (HG2.out.trans g3)
      clear g3 l0 l1 l2 l3 l4 l5 l6 l7 v0 v1 v2 v3 v4 v5 v6 v7
      obtain ⟨l0, l1, l2, l3, l4, l5, l6, l7⟩ := (HL.out.gr HG3.out).all
      obtain ⟨v0, v1, v2, v3, v4, v5, v6, v7⟩ := (HV.out.gr HG3.out).all
      go_wp2_with fail
      refine (HDS.out _ HG3.out).mono ?_
      rintro e w4 ⟨s, D, rfl, hd⟩
      have HG4 := Lib.hid (HG3.out.trans hd.gr)
      have hlen : D.length ≤ 65536 := by
        have e1 : D.length = (dsh D).length := (List.length_map _).symm
        rw [e1, hd.sh]
        have := HDA.out
        omega
      have hel : ∀ d ∈ D, d.op.elem.size ≤ 281474976710656 := fun d hdd => by
        have := (dsh_elems HOL.out hd.sh d hdd).1
        omega
      have HVO := Lib.hid (valueOf_any kind start HKK.out s D w4 hd.own.dv (hd.xs.gr hd.gr) hlen hel HBD.out)
      have HVE : Hid (valR kind start D = valAt kind start l v key) := Lib.hid (by unfold valAt; rw [← hd.sh, erD_all, valR_er])
      rw [HVE.out, ← HVR.out] at HVO
      have HSZ4 : Hid (w.heap.size + 1 + 1 < w4.heap.size) := Lib.hid (Nat.lt_of_lt_of_le HSW.out HG4.out.size)
      obtain ⟨A, c, rfl⟩ := slice_dd hd.own
      obtain ⟨n, hn⟩ : ∃ n, n = D.length := ⟨_, rfl⟩
      rw [← hn] at HVO ⊢
      clear hd hlen hel hn l0 l1 l2 l3 l4 l5 l6 l7 v0 v1 v2 v3 v4 v5 v6 v7
      clear HVE
      go_wp2_with fail
      refine HVO.out.mono ?_
      rintro e w5 ⟨ve, rfl, ho, g5⟩
      have HG5 := Lib.hid (HG4.out.trans g5)
      have HO := Lib.hid ho
      obtain ⟨Ae, ceq, hve, -, -⟩ := own_form ho
      subst hve
      obtain ⟨m, hm⟩ : ∃ m, m = r.e.length := ⟨_, rfl⟩
      rw [← hm] at HO ⊢
      have hz2 := gr_obj HG5.out HZ.out
      have z0 : w5.cell? ⟨w.heap.size + 1 + 1, 0, none⟩ = some (.int .i64 0) := by rw [cell_of_block hz2]; rfl
      have z1 : w5.cell? ⟨w.heap.size + 1 + 1, 1, none⟩ = some (.slice none 0 0) := by rw [cell_of_block hz2]; rfl
      have z2 : w5.cell? ⟨w.heap.size + 1 + 1, 2, none⟩ = some (.bool false) := by rw [cell_of_block hz2]; rfl
      have k0 := unfrozen_of_block hz2 0
      have k1 := unfrozen_of_block hz2 1
      have k2 := unfrozen_of_block hz2 2
      obtain ⟨rn, hrn⟩ : ∃ x, x = r.n := ⟨_, rfl⟩
      obtain ⟨ron, hron⟩ : ∃ x, x = r.on := ⟨_, rfl⟩
      rw [← hrn, ← hron]
      have HRR := Lib.hid (And.intro hrn hron)
      clear g5 hz2 ho hm hrn hron
      go_wp2_with fail
      refine bodyPost_ret (v := .tuple #[.agg #[.int .i64 rn, .slice Ae m ceq, .bool ron], .int .i64 0]) (by simp [results, Tryz.results139, go_sem, *]) rfl ⟨_, by rw [← HRR.out.1, ← HRR.out.2]; rfl, ?_, ?_⟩
      · show SO (((w5.setCell _ _).setCell _ _).setCell _ _) _ _ _
        exact (HO.out.set3 HSZ4.out _ _ _).le (by have := HSZ4.out; omega)
      · show Gr w (((w5.setCell _ _).setCell _ _).setCell _ _)
        exact (((HG.out.trans HG5.out).setCell (by simp only []; omega) _).setCell (by simp only []; omega) _).setCell (by simp only []; omega) _
    · have hcl : closedB l v = false := Bool.eq_false_iff.2 hcl
      have HE : Hid (valE kind l v = 92) := Lib.hid (by unfold valE; rw [if_neg hkk, if_pos hok, hcl]; rfl)
      have HR : Hid (valV kind start l v key = ⟨0, [], false⟩) := Lib.hid (by unfold valV; rw [HE.out]; rfl)
      rw [hcl] at HCL
      rw [HE.out, HR.out]
      clear hL hV hz hg h hq hb hz0 hok hcl z0 z1 z2 k0 k1 k2 hce hkk hk1 hk8
      go_enter Tryz.func139, Tryz.ntmps139
      go_upto_region 1 with (fail)
      rw [← hW]
      clear hW
      go_wp2_with fail
      refine (HCK.out _ (Gr.refl _)).mono ?_
      rintro e w2 ⟨rfl, g2⟩
      have HG2 := Lib.hid g2
      clear g2 l0 l1 l2 l3 l4 l5 l6 l7
      obtain ⟨l0, l1, l2, l3, l4, l5, l6, l7⟩ := (HL.out.gr HG2.out).all
      obtain ⟨v0, v1, v2, v3, v4, v5, v6, v7⟩ := (HV.out.gr HG2.out).all
      go_wp2_with fail
      refine (HCL.out _ HG2.out).mono ?_
      rintro e w3 ⟨rfl, g3⟩
      have HG3 := Lib.hid (HG2.out.trans g3)
      clear g3 l0 l1 l2 l3 l4 l5 l6 l7 v0 v1 v2 v3 v4 v5 v6 v7
      have hz2 := gr_obj HG3.out HZ.out
      have z0 : w3.cell? ⟨w.heap.size + 1 + 1, 0, none⟩ = some (.int .i64 0) := by rw [cell_of_block hz2]; rfl
      have z1 : w3.cell? ⟨w.heap.size + 1 + 1, 1, none⟩ = some (.slice none 0 0) := by rw [cell_of_block hz2]; rfl
      have z2 : w3.cell? ⟨w.heap.size + 1 + 1, 2, none⟩ = some (.bool false) := by rw [cell_of_block hz2]; rfl
      have k0 := unfrozen_of_block hz2 0
      have k1 := unfrozen_of_block hz2 1
      have k2 := unfrozen_of_block hz2 2
      clear hz2
      go_wp2_with fail
      refine bodyPost_ret (v := .tuple #[.agg (valv 0), .int .i64 92]) (by simp [results, Tryz.results139, go_sem, *]) rfl ⟨_, rfl, SO.nil _ _, ?_⟩
      show Gr w (((w3.setCell _ _).setCell _ _).setCell _ _)
      exact (((HG.out.trans HG3.out).setCell (by simp only []; omega) _).setCell (by simp only []; omega) _).setCell (by simp only []; omega) _
  · have hok : ¬ checkE l = 0 := by rw [← hce]; exact hc0
    have HE : Hid (valE kind l v = ce) := Lib.hid (by unfold valE; rw [if_neg hkk, if_neg hok]; exact hce.symm)
    have HR : Hid (valV kind start l v key = ⟨0, [], false⟩) := Lib.hid (by unfold valV; rw [HE.out, if_neg hc0])
    have hc1 : ¬ (ce : Int) = 0 := by omega
    have hc2 : decide ((ce : Int) = 0) = false := decide_eq_false hc1
    have hc3 : ((ce : Int) == 0) = false := beq_eq_false_iff_ne.2 hc1
    rw [HE.out, HR.out]
    clear hL hV hz hg h hq hb hz0 hok z0 z1 z2 k0 k1 k2 hce hkk hk1 hk8
    go_enter Tryz.func139, Tryz.ntmps139
    go_upto_region 1 with (fail)
    rw [← hW]
    clear hW
    go_wp2_with fail
    refine (HCK.out _ (Gr.refl _)).mono ?_
    rintro e w3 ⟨rfl, g2⟩
    have HG3 := Lib.hid g2
    clear g2 l0 l1 l2 l3 l4 l5 l6 l7
    have hz2 := gr_obj HG3.out HZ.out
    have z0 : w3.cell? ⟨w.heap.size + 1 + 1, 0, none⟩ = some (.int .i64 0) := by rw [cell_of_block hz2]; rfl
    have z1 : w3.cell? ⟨w.heap.size + 1 + 1, 1, none⟩ = some (.slice none 0 0) := by rw [cell_of_block hz2]; rfl
    have z2 : w3.cell? ⟨w.heap.size + 1 + 1, 2, none⟩ = some (.bool false) := by rw [cell_of_block hz2]; rfl
    have k0 := unfrozen_of_block hz2 0
    have k1 := unfrozen_of_block hz2 1
    have k2 := unfrozen_of_block hz2 2
    clear hz2
    go_wp2_with fail
    refine bodyPost_ret (v := .tuple #[.agg (valv 0), .int .i64 (ce : Int)]) (by simp [results, Tryz.results139, go_sem, *]) rfl ⟨_, rfl, SO.nil _ _, ?_⟩
    show Gr w (((w3.setCell _ _).setCell _ _).setCell _ _)
    exact (((HG.out.trans HG3.out).setCell (by simp only []; omega) _).setCell (by simp only []; omega) _).setCell (by simp only []; omega) _
end Go.Proofs.YtnjmgknicffcbaaGreatDoor
