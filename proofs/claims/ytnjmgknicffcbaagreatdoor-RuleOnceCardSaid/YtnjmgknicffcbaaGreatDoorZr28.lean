/- Walks: Value, of any kind, at any cut of any logs. What the operations of a region leave, each told by a predicate that keeps when boxes change. Walks: the document's Order. Walks: the document's Order, whole. -/
import Derived.Test.YtnjmgknicffcbaaGreatDoorZr27
import Derived.Test.YtnjmgknicffcbaaGreatDoorZr24
import Derived.Test.YtnjmgknicffcbaaGreatDoorZr15
import Derived.Test.YtnjmgknicffcbaaGreatDoorZr13
import Derived.Test.YtnjmgknicffcbaaGreatDoorZr08
namespace Go.Proofs.YtnjmgknicffcbaaGreatDoor
open Go.RowKit Go.Joins
set_option linter.unusedSimpArgs false
set_option linter.unusedVariables false

/-- A deed with no place in memory. -/
def toD (x : TX × Nat) : DD := ⟨0, 0, x.1, x.2⟩
def erD (d : DD) : DD := toD (d.t, d.i)
theorem erD_all (D : List DD) : (dsh D).map toD = D.map erD := by
  unfold dsh
  rw [List.map_map]
  rfl
theorem kindF_er (k : Int) (D : List DD) : kindF k (D.map erD) = (kindF k D).map erD := by
  unfold kindF
  rw [List.filter_map]
  rfl
theorem sumD_er (D : List DD) : ∀ j, sumD (D.map erD) j = sumD D j
  | 0 => rfl
  | j + 1 => by
    show sumD (D.map erD) j + _ = sumD D j + _
    rw [sumD_er D j, List.getElem?_map]
    cases D[j]? <;> rfl
theorem totD_er (s : Int) (D : List DD) : totD s (D.map erD) = totD s D := by
  unfold totD
  rw [kindF_er, kindF_er, sumD_er, sumD_er, List.length_map, List.length_map]
theorem seenF_er (L : List DD) : ∀ j, seenF (L.map erD) j = seenF L j
  | 0 => rfl
  | j + 1 => by
    cases h : L[j]? with
    | none =>
      show (match (L.map erD)[j]? with | some d => _ | none => _) = (match L[j]? with | some d => _ | none => _)
      rw [List.getElem?_map, h]
      exact seenF_er L j
    | some d =>
      rw [seenF_at h, seenF_at (L := L.map erD) (d := erD d) (by rw [List.getElem?_map, h]; rfl), seenF_er L j]
      rfl
theorem unsL_er (a b : Int) (D : List DD) : unsL a b (D.map erD) = (unsL a b D).map erD := by
  unfold unsL
  rw [kindF_er, kindF_er, List.length_map, seenF_er, List.filter_map]
  rfl
theorem elemsD_er (D : List DD) : elemsD (D.map erD) = elemsD D := by
  unfold elemsD
  rw [List.map_map]
  rfl
theorem topD_er (D : List DD) : topD (D.map erD) = (topD D).map erD := by
  have h : ∀ (D : List DD) (o : Option DD), (D.map erD).foldl topN (o.map erD) = (D.foldl topN o).map erD := by
    intro D
    induction D with
    | nil => intro o; rfl
    | cons d r ih =>
      intro o
      rw [List.map_cons, List.foldl_cons, List.foldl_cons, ← ih]
      congr 1
      cases o with
      | none => rfl
      | some t =>
        show topN (some (erD t)) (erD d) = _
        by_cases hle : t.t.stamp ≤ d.t.stamp
        · rw [topN_yes hle, topN_yes (t := erD t) (d := erD d) hle]; rfl
        · rw [topN_no hle, topN_no (t := erD t) (d := erD d) hle]; rfl
  exact h D none
theorem valR_er (kind start : Int) (D : List DD) : valR kind start (D.map erD) = valR kind start D := by
  have e1 : firmL (D.map erD) = firmL D := by unfold firmL; rw [kindF_er, unsL_er, elemsD_er, elemsD_er]
  have e2 : lastL (D.map erD) = lastL D := by
    unfold lastL
    rw [kindF_er, topD_er]
    cases topD (kindF 6 D) <;> rfl
  have e3 : onB start (D.map erD) = onB start D := by unfold onB; rw [unsL_er, kindF_er, List.length_map, List.length_map]
  unfold valR
  rw [totD_er, unsL_er, unsL_er, elemsD_er, elemsD_er, e1, e2, e3]
/-- Which error Value answers. -/
def valE (kind : Int) (l : LG) (v : Nat → Nat) : Nat := if kind < 1 ∨ 8 < kind then 100 else if checkE l = 0 then (if closedB l v = true then 0 else 92) else checkE l
/-- A key's value at a closed cut. -/
def valAt (kind start : Int) (l : LG) (v : Nat → Nat) (key : ByteArray) : VR := valR kind start ((dAll key l v 8).map toD)
def valV (kind start : Int) (l : LG) (v : Nat → Nat) (key : ByteArray) : VR := if valE kind l v = 0 then valAt kind start l v key else ⟨0, [], false⟩
def RetValE (r : VR) (k : Nat) (w : World) (e : Ending) (w' : World) : Prop := ∃ ve, e = .returned (.tuple #[.agg #[.int .i64 r.n, ve, .bool r.on], .int .i64 (k : Int)]) ∧ SO w' w.heap.size ve r.e ∧ Gr w w'
theorem dsh_elems {key : ByteArray} {l : LG} {v : Nat → Nat} (hl : OkL l) {D : List DD} (h : dsh D = dAll key l v 8) : ∀ d ∈ D, d.op.elem.size ≤ 32 ∧ d.i < d.t.ops.length := by
  have hmem : ∀ x ∈ dAll key l v 8, ∃ (i : Nat) (_ : i < 8), x.1 ∈ l i ∧ x.2 < x.1.ops.length := by
    have h1 : ∀ (t : TX) j, j ≤ t.ops.length → ∀ x ∈ dTx key t j, x.1 = t ∧ x.2 < t.ops.length := by
      intro t j
      induction j with
      | zero => intro _ x hx; cases hx
      | succ j ih =>
        intro hj x hx
        unfold dTx at hx
        rcases List.mem_append.1 hx with hx | hx
        · exact ih (by omega) x hx
        · split at hx
          · split at hx
            · obtain rfl := List.mem_singleton.1 hx
              exact ⟨rfl, hj⟩
            · cases hx
          · cases hx
    have h2 : ∀ i d, ∀ x ∈ dLog key l i d, x.1 ∈ l i ∧ x.2 < x.1.ops.length := by
      intro i d
      induction d with
      | zero => intro x hx; cases hx
      | succ d ih =>
        intro x hx
        unfold dLog at hx
        rcases List.mem_append.1 hx with hx | hx
        · exact ih x hx
        · split at hx
          · next t ht =>
            obtain ⟨rfl, hlt⟩ := h1 t _ (Nat.le_refl _) x hx
            exact ⟨List.mem_of_getElem? ht, hlt⟩
          · cases hx
    have h3 : ∀ n, n ≤ 8 → ∀ x ∈ dAll key l v n, ∃ (i : Nat) (_ : i < 8), x.1 ∈ l i ∧ x.2 < x.1.ops.length := by
      intro n
      induction n with
      | zero => intro _ x hx; cases hx
      | succ n ih =>
        intro hn x hx
        unfold dAll at hx
        rcases List.mem_append.1 hx with hx | hx
        · exact ih (by omega) x hx
        · exact ⟨n, by omega, h2 n _ x hx⟩
    exact h3 8 (Nat.le_refl _)
  intro d hd
  obtain ⟨i, hi, hm, hlt⟩ := hmem (d.t, d.i) (by rw [← h]; exact List.mem_map.2 ⟨d, hd, rfl⟩)
  obtain ⟨k, hk⟩ := List.mem_iff_getElem?.1 hm
  have hok := (hl.tx i k d.t hi hk).1
  have hop : d.op = d.t.ops[d.i] := by
    unfold DD.op
    rw [List.getD_eq_getElem?_getD, List.getElem?_eq_getElem hlt]
    rfl
  refine ⟨?_, hlt⟩
  rw [hop]
  exact (hok.2.2.2 _ (List.getElem_mem hlt)).2.1
set_option maxRecDepth 100000 in
set_option maxHeartbeats 4000000 in
theorem value_any (kind start : Int) (u : Nat → S3) (l : LG) (v : Nat → Nat) (key : ByteArray) (w : World) (h : LV w u l) (hq : FitQ l) (hb : wrap64 start = start) :
    Calls Tryz.prog 139 #[.int .i64 kind, .int .i64 start, .agg (lcells u), .agg (vcells v), .string key] w fun e w' => RetValE (valV kind start l v key) (valE kind l v) w e w' := by
  obtain ⟨W, hW, hg, hL, hV, hz⟩ := boxesVa u v w
  have HSW : Hid (w.heap.size + 1 + 1 < W.heap.size) := Lib.hid (by rw [hW]; simp)
  have HL := Lib.hid hL
  have HV := Lib.hid hV
  have HZ := Lib.hid hz
  have HG := Lib.hid hg
  have hz0 := HZ.out
  have z0 : W.cell? ⟨w.heap.size + 1 + 1, 0, none⟩ = some (.int .i64 0) := by rw [cell_of_block hz0]; rfl
  have z1 : W.cell? ⟨w.heap.size + 1 + 1, 1, none⟩ = some (.slice none 0 0) := by rw [cell_of_block hz0]; rfl
  have z2 : W.cell? ⟨w.heap.size + 1 + 1, 2, none⟩ = some (.bool false) := by rw [cell_of_block hz0]; rfl
  have k0 := unfrozen_of_block hz0 0
  have k1 := unfrozen_of_block hz0 1
  have k2 := unfrozen_of_block hz0 2
  by_cases hk1 : kind < 1
  · have HE : Hid (valE kind l v = 100) := Lib.hid (by unfold valE; rw [if_pos (.inl hk1)])
    have HR : Hid (valV kind start l v key = ⟨0, [], false⟩) := Lib.hid (by unfold valV; rw [HE.out]; rfl)
    have d1 : decide (kind < 1) = true := decide_eq_true hk1
    rw [HE.out, HR.out]
    clear hL hV hz hg h hq hb hz0
    go_enter Tryz.func139, Tryz.ntmps139
    go_upto_region 1 with (fail)
    rw [← hW]
    clear hW
    go_wp2_with fail
    refine bodyPost_ret (v := .tuple #[.agg (valv 0), .int .i64 100]) (by simp [results, Tryz.results139, go_sem, *]) rfl ⟨_, rfl, SO.nil _ _, ?_⟩
    show Gr w (((W.setCell _ _).setCell _ _).setCell _ _)
    exact ((HG.out.setCell (by simp only []; omega) _).setCell (by simp only []; omega) _).setCell (by simp only []; omega) _
  by_cases hk8 : 8 < kind
  · have HE : Hid (valE kind l v = 100) := Lib.hid (by unfold valE; rw [if_pos (.inr hk8)])
    have HR : Hid (valV kind start l v key = ⟨0, [], false⟩) := Lib.hid (by unfold valV; rw [HE.out]; rfl)
    have d1 : decide (kind < 1) = false := decide_eq_false hk1
    have d2 : decide (8 < kind) = true := decide_eq_true hk8
    rw [HE.out, HR.out]
    clear hL hV hz hg h hq hb hz0
    go_enter Tryz.func139, Tryz.ntmps139
    go_upto_region 1 with (fail)
    rw [← hW]
    clear hW
    go_wp2_with fail
    refine bodyPost_ret (v := .tuple #[.agg (valv 0), .int .i64 100]) (by simp [results, Tryz.results139, go_sem, *]) rfl ⟨_, rfl, SO.nil _ _, ?_⟩
    show Gr w (((W.setCell _ _).setCell _ _).setCell _ _)
    exact ((HG.out.setCell (by simp only []; omega) _).setCell (by simp only []; omega) _).setCell (by simp only []; omega) _
  have hkk : ¬ (kind < 1 ∨ 8 < kind) := by omega
  have HKK : Hid (1 ≤ kind ∧ kind ≤ 8) := Lib.hid (by omega)
  have d1 : decide (kind < 1) = false := decide_eq_false hk1
  have d2 : decide (8 < kind) = false := decide_eq_false hk8
  have HCK := Lib.hid (fun w1 (g : Gr W w1) => check9_any u l w1 ((h.gr hg).gr g) hq)
  obtain ⟨l0, l1, l2, l3, l4, l5, l6, l7⟩ := hL.all
  obtain ⟨ce, hce⟩ : ∃ c, c = checkE l := ⟨_, rfl⟩
  rw [← hce] at HCK
  by_cases hc0 : ce = 0
  · have hok : checkE l = 0 := by rw [← hce]; exact hc0
    have HCL := Lib.hid (fun w1 (g : Gr W w1) => closed_any u l v w1 ((h.gr hg).gr g))
    subst hc0
    by_cases hcl : closedB l v = true
    · have HE : Hid (valE kind l v = 0) := Lib.hid (by unfold valE; rw [if_neg hkk, if_pos hok, if_pos hcl])
      have HR : Hid (valV kind start l v key = valAt kind start l v key) := Lib.hid (by unfold valV; rw [HE.out]; rfl)
      have hclp := closedB_iff.1 hcl
      rw [hcl] at HCL
      have hl := okL_iff.1 hok
      have HOL := Lib.hid hl
      have hop : ∀ i t, i < 8 → t ∈ l i → t.ops.length ≤ 8 := fun i t hi ht => by
        obtain ⟨k, hk⟩ := List.mem_iff_getElem?.1 ht
        exact (hl.tx i k t hi hk).1.2.2.1
      have hvl : ∀ i, i < 8 → v i ≤ 1024 := fun i hi => Nat.le_trans (lq hclp.1 hi) (hl.len i hi)
      have HDS := Lib.hid (fun w1 (g : Gr W w1) => deeds_any u l v key w1 ((h.gr hg).gr g) hclp.1 hop hvl)
      have HDA := Lib.hid (dAll_len key l v hop hvl 8 (Nat.le_refl _))
      have HBD := Lib.hid hb
      obtain ⟨r, hr⟩ : ∃ r, r = valAt kind start l v key := ⟨_, rfl⟩
      rw [HE.out, HR.out, ← hr]
      have HVR := Lib.hid hr
      clear hr
      clear hL hV hz hg h hq hb hz0 hok hcl hclp hl hop hvl z0 z1 z2 k0 k1 k2 hce hkk hk1 hk8
      go_enter Tryz.func139, Tryz.ntmps139
      go_upto_region 1 with (fail)
      rw [← hW]
      clear hW
      go_wp2_with fail
      refine (HCK.out _ (Gr.refl _)).mono ?_
      rintro e w2 ⟨rfl, g2⟩
      have HG2 := Lib.hid g2
      clear g2 l0 l1 l2 l3 l4 l5 l6 l7
      obtain ⟨l0, l1, l2, l3, l4, l5, l6, l7⟩ := (HL.out.gr HG2.out).all
      obtain ⟨v0, v1, v2, v3, v4, v5, v6, v7⟩ := (HV.out.gr HG2.out).all
      go_wp2_with fail
      refine (HCL.out _ HG2.out).mono ?_
      rintro e w3 ⟨rfl, g3⟩
      have HG3 := Lib.hid (HG2.out.trans g3)
      clear g3 l0 l1 l2 l3 l4 l5 l6 l7 v0 v1 v2 v3 v4 v5 v6 v7
      obtain ⟨l0, l1, l2, l3, l4, l5, l6, l7⟩ := (HL.out.gr HG3.out).all
      obtain ⟨v0, v1, v2, v3, v4, v5, v6, v7⟩ := (HV.out.gr HG3.out).all
      go_wp2_with fail
      refine (HDS.out _ HG3.out).mono ?_
      rintro e w4 ⟨s, D, rfl, hd⟩
      have HG4 := Lib.hid (HG3.out.trans hd.gr)
      have hlen : D.length ≤ 65536 := by
        have e1 : D.length = (dsh D).length := (List.length_map _).symm
        rw [e1, hd.sh]
        have := HDA.out
        omega
      have hel : ∀ d ∈ D, d.op.elem.size ≤ 281474976710656 := fun d hdd => by
        have := (dsh_elems HOL.out hd.sh d hdd).1
        omega
      have HVO := Lib.hid (valueOf_any kind start HKK.out s D w4 hd.own.dv (hd.xs.gr hd.gr) hlen hel HBD.out)
      have HVE : Hid (valR kind start D = valAt kind start l v key) := Lib.hid (by unfold valAt; rw [← hd.sh, erD_all, valR_er])
      rw [HVE.out, ← HVR.out] at HVO
      have HSZ4 : Hid (w.heap.size + 1 + 1 < w4.heap.size) := Lib.hid (Nat.lt_of_lt_of_le HSW.out HG4.out.size)
      obtain ⟨A, c, rfl⟩ := slice_dd hd.own
      obtain ⟨n, hn⟩ : ∃ n, n = D.length := ⟨_, rfl⟩
      rw [← hn] at HVO ⊢
      clear hd hlen hel hn l0 l1 l2 l3 l4 l5 l6 l7 v0 v1 v2 v3 v4 v5 v6 v7
      clear HVE
      go_wp2_with fail
      refine HVO.out.mono ?_
      rintro e w5 ⟨ve, rfl, ho, g5⟩
      have HG5 := Lib.hid (HG4.out.trans g5)
      have HO := Lib.hid ho
      obtain ⟨Ae, ceq, hve, -, -⟩ := own_form ho
      subst hve
      obtain ⟨m, hm⟩ : ∃ m, m = r.e.length := ⟨_, rfl⟩
      rw [← hm] at HO ⊢
      have hz2 := gr_obj HG5.out HZ.out
      have z0 : w5.cell? ⟨w.heap.size + 1 + 1, 0, none⟩ = some (.int .i64 0) := by rw [cell_of_block hz2]; rfl
      have z1 : w5.cell? ⟨w.heap.size + 1 + 1, 1, none⟩ = some (.slice none 0 0) := by rw [cell_of_block hz2]; rfl
      have z2 : w5.cell? ⟨w.heap.size + 1 + 1, 2, none⟩ = some (.bool false) := by rw [cell_of_block hz2]; rfl
      have k0 := unfrozen_of_block hz2 0
      have k1 := unfrozen_of_block hz2 1
      have k2 := unfrozen_of_block hz2 2
      obtain ⟨rn, hrn⟩ : ∃ x, x = r.n := ⟨_, rfl⟩
      obtain ⟨ron, hron⟩ : ∃ x, x = r.on := ⟨_, rfl⟩
      rw [← hrn, ← hron]
      have HRR := Lib.hid (And.intro hrn hron)
      clear g5 hz2 ho hm hrn hron
      go_wp2_with fail
      refine bodyPost_ret (v := .tuple #[.agg #[.int .i64 rn, .slice Ae m ceq, .bool ron], .int .i64 0]) (by simp [results, Tryz.results139, go_sem, *]) rfl ⟨_, by rw [← HRR.out.1, ← HRR.out.2]; rfl, ?_, ?_⟩
      · show SO (((w5.setCell _ _).setCell _ _).setCell _ _) _ _ _
        exact (HO.out.set3 HSZ4.out _ _ _).le (by have := HSZ4.out; omega)
      · show Gr w (((w5.setCell _ _).setCell _ _).setCell _ _)
        exact (((HG.out.trans HG5.out).setCell (by simp only []; omega) _).setCell (by simp only []; omega) _).setCell (by simp only []; omega) _
    · have hcl : closedB l v = false := Bool.eq_false_iff.2 hcl
      have HE : Hid (valE kind l v = 92) := Lib.hid (by unfold valE; rw [if_neg hkk, if_pos hok, hcl]; rfl)
      have HR : Hid (valV kind start l v key = ⟨0, [], false⟩) := Lib.hid (by unfold valV; rw [HE.out]; rfl)
      rw [hcl] at HCL
      rw [HE.out, HR.out]
      clear hL hV hz hg h hq hb hz0 hok hcl z0 z1 z2 k0 k1 k2 hce hkk hk1 hk8
      go_enter Tryz.func139, Tryz.ntmps139
      go_upto_region 1 with (fail)
      rw [← hW]
      clear hW
      go_wp2_with fail
      refine (HCK.out _ (Gr.refl _)).mono ?_
      rintro e w2 ⟨rfl, g2⟩
      have HG2 := Lib.hid g2
      clear g2 l0 l1 l2 l3 l4 l5 l6 l7
      obtain ⟨l0, l1, l2, l3, l4, l5, l6, l7⟩ := (HL.out.gr HG2.out).all
      obtain ⟨v0, v1, v2, v3, v4, v5, v6, v7⟩ := (HV.out.gr HG2.out).all
      go_wp2_with fail
      refine (HCL.out _ HG2.out).mono ?_
      rintro e w3 ⟨rfl, g3⟩
      have HG3 := Lib.hid (HG2.out.trans g3)
      clear g3 l0 l1 l2 l3 l4 l5 l6 l7 v0 v1 v2 v3 v4 v5 v6 v7
      have hz2 := gr_obj HG3.out HZ.out
      have z0 : w3.cell? ⟨w.heap.size + 1 + 1, 0, none⟩ = some (.int .i64 0) := by rw [cell_of_block hz2]; rfl
      have z1 : w3.cell? ⟨w.heap.size + 1 + 1, 1, none⟩ = some (.slice none 0 0) := by rw [cell_of_block hz2]; rfl
      have z2 : w3.cell? ⟨w.heap.size + 1 + 1, 2, none⟩ = some (.bool false) := by rw [cell_of_block hz2]; rfl
      have k0 := unfrozen_of_block hz2 0
      have k1 := unfrozen_of_block hz2 1
      have k2 := unfrozen_of_block hz2 2
      clear hz2
      go_wp2_with fail
      refine bodyPost_ret (v := .tuple #[.agg (valv 0), .int .i64 92]) (by simp [results, Tryz.results139, go_sem, *]) rfl ⟨_, rfl, SO.nil _ _, ?_⟩
      show Gr w (((w3.setCell _ _).setCell _ _).setCell _ _)
      exact (((HG.out.trans HG3.out).setCell (by simp only []; omega) _).setCell (by simp only []; omega) _).setCell (by simp only []; omega) _
  · have hok : ¬ checkE l = 0 := by rw [← hce]; exact hc0
    have HE : Hid (valE kind l v = ce) := Lib.hid (by unfold valE; rw [if_neg hkk, if_neg hok]; exact hce.symm)
    have HR : Hid (valV kind start l v key = ⟨0, [], false⟩) := Lib.hid (by unfold valV; rw [HE.out, if_neg hc0])
    have hc1 : ¬ (ce : Int) = 0 := by omega
    have hc2 : decide ((ce : Int) = 0) = false := decide_eq_false hc1
    have hc3 : ((ce : Int) == 0) = false := beq_eq_false_iff_ne.2 hc1
    rw [HE.out, HR.out]
    clear hL hV hz hg h hq hb hz0 hok z0 z1 z2 k0 k1 k2 hce hkk hk1 hk8
    go_enter Tryz.func139, Tryz.ntmps139
    go_upto_region 1 with (fail)
    rw [← hW]
    clear hW
    go_wp2_with fail
    refine (HCK.out _ (Gr.refl _)).mono ?_
    rintro e w3 ⟨rfl, g2⟩
    have HG3 := Lib.hid g2
    clear g2 l0 l1 l2 l3 l4 l5 l6 l7
    have hz2 := gr_obj HG3.out HZ.out
    have z0 : w3.cell? ⟨w.heap.size + 1 + 1, 0, none⟩ = some (.int .i64 0) := by rw [cell_of_block hz2]; rfl
    have z1 : w3.cell? ⟨w.heap.size + 1 + 1, 1, none⟩ = some (.slice none 0 0) := by rw [cell_of_block hz2]; rfl
    have z2 : w3.cell? ⟨w.heap.size + 1 + 1, 2, none⟩ = some (.bool false) := by rw [cell_of_block hz2]; rfl
    have k0 := unfrozen_of_block hz2 0
    have k1 := unfrozen_of_block hz2 1
    have k2 := unfrozen_of_block hz2 2
    clear hz2
    go_wp2_with fail
    refine bodyPost_ret (v := .tuple #[.agg (valv 0), .int .i64 (ce : Int)]) (by simp [results, Tryz.results139, go_sem, *]) rfl ⟨_, rfl, SO.nil _ _, ?_⟩
    show Gr w (((w3.setCell _ _).setCell _ _).setCell _ _)
    exact (((HG.out.trans HG3.out).setCell (by simp only []; omega) _).setCell (by simp only []; omega) _).setCell (by simp only []; omega) _
end Go.Proofs.YtnjmgknicffcbaaGreatDoor
namespace Go.Proofs.YtnjmgknicffcbaaGreatDoor
open Go.RowKit Go.Joins

/-- Value's answer, its parts named. -/
theorem RetValE.form {r : VR} {k : Nat} {w : World} {e : Ending} {w' : World} (h : RetValE r k w e w') : ∃ A c, e = .returned (.tuple #[.agg #[.int .i64 r.n, .slice A r.e.length c, .bool r.on], .int .i64 (k : Int)]) ∧ SO w' w.heap.size (.slice A r.e.length c) r.e ∧ Gr w w' := by
  obtain ⟨ve, h1, h2, h3⟩ := h
  obtain ⟨A, c, hv, -, -⟩ := own_form h2
  subst hv
  exact ⟨A, c, h1, h2, h3⟩
end Go.Proofs.YtnjmgknicffcbaaGreatDoor
namespace Go.Proofs.YtnjmgknicffcbaaGreatDoor
open Go.RowKit Go.Joins
set_option linter.unusedSimpArgs false
set_option linter.unusedVariables false

/-- By stamps, then by origins, then by numbers. -/
def aheadB (a b : TX) : Bool := if a.stamp = b.stamp then (if a.origin = b.origin then decide (a.seq < b.seq) else decide (a.origin < b.origin)) else decide (a.stamp < b.stamp)
/-- The place from k down that t goes to. -/
def plc (t : TX) (L : List TX) : Nat → Nat
  | 0 => 0
  | k + 1 => match L[k]? with | some x => if aheadB t x = true then plc t L k else k + 1 | none => k + 1
def insT (t : TX) (L : List TX) : List TX := L.take (plc t L L.length) ++ t :: L.drop (plc t L L.length)
def ordIn (l : LG) (i : Nat) (acc : List TX) : Nat → List TX
  | 0 => acc
  | d + 1 => match (l i)[d]? with | some t => insT t (ordIn l i acc d) | none => ordIn l i acc d
def ordTo (l : LG) (v : Nat → Nat) : Nat → List TX
  | 0 => []
  | i + 1 => ordIn l i (ordTo l v i) (v i)
/-- What the document's Order answers. -/
def ordR (l : LG) (v : Nat → Nat) : List TX := ordTo l (mt v (sizeV l)) 8
theorem ordIn_at {l : LG} {i d : Nat} {acc : List TX} {t : TX} (h : (l i)[d]? = some t) : ordIn l i acc (d + 1) = insT t (ordIn l i acc d) := by
  show (match (l i)[d]? with | some t => _ | none => _) = _
  rw [h]
end Go.Proofs.YtnjmgknicffcbaaGreatDoor
namespace Go.Proofs.YtnjmgknicffcbaaGreatDoor
open Go.RowKit Go.Joins
set_option linter.unusedSimpArgs false
set_option linter.unusedVariables false

/-- An owned row with one element stored anew. -/
theorem xo_set {w : World} {B g n c k : Nat} {R : List TR} (h : w.ownsRow B 47 12 (.slice (some ⟨g, 0, none⟩) n c) n (trs R)) (hk : k < R.length) (y : TR) :
    (putCells w g (k * 12) (trcells y)).ownsRow B 47 12 (.slice (some ⟨g, 0, none⟩) n c) n (trs (R.set k y)) ∧ Kp (some g) w (putCells w g (k * 12) (trcells y)) := by
  obtain ⟨h1, h2⟩ := own_putCells (trcells y) (k * 12) w _ h
  rw [show setFrom (trs R) (k * 12) (trcells y) = trs (R.set k y) from setFrom_rows trcells 12 trcells_len (by decide) R k hk y] at h1
  exact ⟨h1, h2⟩
theorem TOO.kpT {w w' : World} {B B' g n c : Nat} {xs : List Value} {v : Value} {ops : List TO} (hv : TOO w B' v ops) (ho : w.ownsRow B 47 12 (.slice (some ⟨g, 0, none⟩) n c) n xs) (hB : B' ≤ B) (k : Kp (some g) w w') : TOO w' B' v ops :=
  World.ownsRow.kept hv k (.inr (own_types (own_le ho hB) hv (by decide) (b := g) rfl))
/-- What Order has in memory: the logs' box, the cut's, the row. -/
structure OrR (w : World) (u : Nat → S3) (v0 : Nat → Nat) (s : Value) (R : List TR) (wr : World) : Prop where
  lb : LBox wr w.heap.size u
  vb : VBox wr (w.heap.size + 1) v0
  own : wr.ownsRow (w.heap.size + 2) 47 12 s R.length (trs R)
  ops : TOn wr (w.heap.size + 2) R
  gr : Gr w wr
theorem OrR.next {w : World} {u : Nat → S3} {v0 : Nat → Nat} {s : Value} {R : List TR} {wr w' : World} (h : OrR w u v0 s R wr) (g : Gr wr w') : OrR w u v0 s R w' :=
  ⟨h.lb.gr g, h.vb.gr g, own_gr h.own g, h.ops.mid (Mid.of_gr g), h.gr.trans g⟩
/-- The row has grown by one. -/
theorem OrR.more {w : World} {u : Nat → S3} {v0 : Nat → Nat} {A A' : Option Addr} {n c c' : Nat} {R : List TR} {wr w' : World} {y : TR} (h : OrR w u v0 (.slice A n c) R wr) (hn : n = R.length) (hy : TOO wr (w.heap.size + 2) y.2.v y.1.ops)
    (ho : w'.ownsRow (w.heap.size + 2) 47 12 (.slice A' (n + 1) c') (n + 1) (trs (R ++ [y]))) (kp : wr.grownBy w' (Value.slice A n c).ownBlock) : OrR w u v0 (.slice A' (n + 1) c') (R ++ [y]) w' := by
  subst hn
  have hb := own_below h.own kp
  refine ⟨h.lb.keep (hb _ (by omega) h.lb.lt), ⟨by rw [hb _ (by omega) h.vb.lt]; exact h.vb.box⟩, by rw [List.length_append]; exact ho, fun r hr => ?_, h.gr.grown h.own (by omega) kp⟩
  rcases List.mem_append.1 hr with hr | hr
  · exact TOO.grown (h.ops r hr) h.own (Nat.le_refl _) kp
  · simp only [List.mem_singleton] at hr
    subst hr
    exact TOO.grown hy h.own (Nat.le_refl _) kp
/-- One element stored anew. -/
theorem OrR.put {w : World} {u : Nat → S3} {v0 : Nat → Nat} {g n c k : Nat} {R : List TR} {wr : World} {y : TR} (h : OrR w u v0 (.slice (some ⟨g, 0, none⟩) n c) R wr) (hk : k < R.length) (hn : n = R.length) (hy : TOO wr (w.heap.size + 2) y.2.v y.1.ops) :
    OrR w u v0 (.slice (some ⟨g, 0, none⟩) n c) (R.set k y) (putCells wr g (k * 12) (trcells y)) ∧ Kp (some g) wr (putCells wr g (k * 12) (trcells y)) := by
  subst hn
  obtain ⟨h1, h2⟩ := xo_set h.own hk y
  have hg := (own_len h.own).2.2.1
  refine ⟨⟨⟨kp_obj h2 h.lb.box (by intro e; injection e with e; omega)⟩, ⟨kp_obj h2 h.vb.box (by intro e; injection e with e; omega)⟩, by rw [List.length_set]; exact h1, fun r hr => ?_, h.gr.trans_kp h2 (by omega)⟩, h2⟩
  rcases List.mem_or_eq_of_mem_set hr with hr | hr
  · exact (h.ops r hr).kpT h.own (Nat.le_refl _) h2
  · subst hr
    exact hy.kpT h.own (Nat.le_refl _) h2
/-- The row while an element goes down: place k is free. -/
def gap (R : List TR) (k : Nat) (y : TR) : List TR := R.take k ++ y :: R.drop k
/-- The rounds in which an element goes down. -/
structure OrG (w : World) (u : Nat → S3) (v0 : Nat → Nat) (g n c : Nat) (R : List TR) (t : TX) (s : S3) (bt : Nat) (k : Nat) (wr : World) : Prop where
  or : ∃ y, OrR w u v0 (.slice (some ⟨g, 0, none⟩) n c) (gap R k y) wr
  bx : XFix wr bt 0 t s.v
  bg : g ≠ bt
  ow : TOO wr (w.heap.size + 2) s.v t.ops
  pl : plc t (texts R) R.length = plc t (texts R) k
theorem OrG.next {w : World} {u : Nat → S3} {v0 : Nat → Nat} {g n c : Nat} {R : List TR} {t : TX} {s : S3} {bt k : Nat} {wr w' : World} (h : OrG w u v0 g n c R t s bt k wr) (gr : Gr wr w') : OrG w u v0 g n c R t s bt k w' := by
  obtain ⟨y, hy⟩ := h.or
  exact ⟨⟨y, hy.next gr⟩, h.bx.gr gr, h.bg, own_gr h.ow gr, h.pl⟩

end Go.Proofs.YtnjmgknicffcbaaGreatDoor
